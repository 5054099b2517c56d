/-
  The statement on the totals of a concatenation returns true, for every two slices of numbers.
-/
import Derived.Test.YtllkafgmacngjaaAwake
import Derived.Test.YtllkafgmacngjaaOut
namespace Go.Proofs.Ytllkafgmacngjaa
open Go.RowKit

set_option maxHeartbeats 1000000 in
set_option maxRecDepth 100000 in
theorem sums_walk (A : Option Addr) (n c : Nat) (xs : List Int) (A' : Option Addr) (n' c' : Nat) (ys : List Int) (w : World)
    (hX : Nums w w.heap.size A n xs) (kX : A = none → n = 0 ∧ c = 0) (hn : n ≤ 140737488351232) (_ : ∀ z ∈ xs, -2147483648 ≤ z ∧ z ≤ 2147483647)
    (hY : Nums w w.heap.size A' n' ys) (kY : A' = none → n' = 0 ∧ c' = 0) (hn' : n' ≤ 140737488351232) (_ : ∀ z ∈ ys, -2147483648 ≤ z ∧ z ≤ 2147483647) :
    Calls Try.prog 8 #[.slice A n c, .slice A' n' c'] w fun e w' => e = .returned (.bool true) ∧ Below w.heap.size w w' := by
  by_cases hbig : 200 < n + n'
  · have hbz : (200 : Int) < (n : Int) + (n' : Int) := by omega
    clear hX hY
    go_enter Try.func8, Try.ntmps8
    go_wp2_with fail
    refine (awake_any w).mono ?_
    rintro e w1 ⟨rfl, hb⟩
    go_wp2
    go_ret
    exact ⟨rfl, hb⟩
  · have hbz : ¬ (200 : Int) < (n : Int) + (n' : Int) := by omega
    have lx : Hid (xs.length ≤ 200) := Lib.hid (by have := hX.1; omega)
    have ly : Hid (ys.length ≤ 200) := Lib.hid (by have := hY.1; omega)
    have KX := Lib.hid kX
    have KY := Lib.hid kY
    clear kX kY
    have h1 := total_any A n c w.heap.size xs w (Nat.le_refl _) hX (by omega)
    have h2 := fun (w1 : World) (b : Below w.heap.size w w1) => total_any A' n' c' w.heap.size ys w1 b.size (hY.below b (Nat.le_refl _)) (by omega)
    have zx := Cw.total_bounds xs
    have zy := Cw.total_bounds ys
    have lxx := lx.out
    have lyy := ly.out
    have T1 : Hid (Cw.total (xs ++ ys) = Cw.total xs + Cw.total ys) := Lib.hid (Cw.total_append xs ys)
    have T2 : Hid (Cw.total (ys ++ xs) = Cw.total xs + Cw.total ys) := Lib.hid (by rw [Cw.total_append, Int.add_comm])
    generalize Cw.total xs = x at h1 zx T1 T2
    generalize Cw.total ys = y at h2 zy T1 T2
    have x0 : 0 ≤ x := by omega
    have x1 : x ≤ 1000 := by omega
    have y0 : 0 ≤ y := by omega
    have y1 : y ≤ 1000 := by omega
    clear zx zy lxx lyy
    have HX := Lib.hid hX
    have HY := Lib.hid hY
    clear hX hY
    go_enter Try.func8, Try.ntmps8
    go_wp2_with fail
    refine h1.mono ?_
    rintro e w1 ⟨rfl, b1⟩
    go_wp2_with fail
    refine (h2 w1 b1).mono ?_
    rintro e w2 ⟨rfl, b2⟩
    have B2 : Hid (Below w.heap.size w w2) := Lib.hid (b1.trans (b2.mono b1.size))
    clear b1 b2 h1 h2
    have e1 : (x + y == x + y) = true := by simp
    go_wp2_with (first | (at_builtin; refine wpList_join rfl (.tmp 18) (.tmp 19) rfl w2 _ _ [] xs A n c _ rfl rfl (Out.laid w2) ((HX.out.below B2.out (Nat.le_refl _)).alloc B2.out.size _) KX.out (by have := lx.out; simp; omega) ?_; intro v4 w4 hout4; rw [List.nil_append] at hout4) | (at_builtin; refine wpList_join rfl (.tmp 20) (.tmp 21) rfl w2 _ _ xs ys A' n' c' _ rfl rfl hout4 ((HY.out.below B2.out (Nat.le_refl _)).below hout4.2 B2.out.size) KY.out (by have := lx.out; have := ly.out; omega) ?_; intro v5 w5 hout5; obtain ⟨A5, n5, c5, hv5, m5⟩ := hout5.reads; subst hv5; clear hout4))
    have h3 := total_any A5 n5 c5 w5.heap.size (xs ++ ys) w5 (Nat.le_refl _) m5 (by have := m5.1; have := lx.out; have := ly.out; rw [List.length_append] at *; omega)
    rw [T1.out] at h3
    refine h3.mono ?_
    rintro e w6 ⟨rfl, b6⟩
    have B6 : Hid (Below w.heap.size w w6) := Lib.hid ((B2.out.trans (hout5.2.mono B2.out.size)).trans (b6.mono (Nat.le_trans B2.out.size hout5.2.size)))
    clear hout5 h3 m5 b6
    go_wp2_with (first | (at_builtin; refine wpList_guarded rfl ?_; refine wpList_join rfl (.tmp 27) (.tmp 28) rfl w6 _ _ [] ys A' n' c' _ rfl rfl (Out.laid w6) ((HY.out.below B6.out (Nat.le_refl _)).alloc B6.out.size _) KY.out (by have := ly.out; simp; omega) ?_; intro v7 w7 hout7; rw [List.nil_append] at hout7) | (at_builtin; refine wpList_guarded rfl ?_; refine wpList_join rfl (.tmp 29) (.tmp 30) rfl w6 _ _ ys xs A n c _ rfl rfl hout7 ((HX.out.below B6.out (Nat.le_refl _)).below hout7.2 B6.out.size) KX.out (by have := lx.out; have := ly.out; omega) ?_; intro v8 w8 hout8; obtain ⟨A8, n8, c8, hv8, m8⟩ := hout8.reads; subst hv8; clear hout7))
    have h4 := total_any A8 n8 c8 w8.heap.size (ys ++ xs) w8 (Nat.le_refl _) m8 (by have := m8.1; have := lx.out; have := ly.out; rw [List.length_append] at *; omega)
    rw [T2.out] at h4
    refine h4.mono ?_
    rintro e w9 ⟨rfl, b9⟩
    have B9 : Hid (Below w.heap.size w w9) := Lib.hid ((B6.out.trans (hout8.2.mono B6.out.size)).trans (b9.mono (Nat.le_trans B6.out.size hout8.2.size)))
    clear hout8 h4 m8 b9
    go_wp2_with fail
    refine (awake_any w9).mono ?_
    rintro e w10 ⟨rfl, b10⟩
    go_wp2
    go_ret
    exact ⟨rfl, B9.out.trans (b10.mono B9.out.size)⟩

end Go.Proofs.Ytllkafgmacngjaa
