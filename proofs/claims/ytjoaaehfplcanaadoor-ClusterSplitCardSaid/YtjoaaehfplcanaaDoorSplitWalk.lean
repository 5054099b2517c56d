/-
  The statement that compares Split with the document's own returns true, for every list of numbers.
-/
import Derived.Test.YtjoaaehfplcanaaDoorAwake
import Derived.Test.YtjoaaehfplcanaaDoorRefSplit
namespace Go.Proofs.YtjoaaehfplcanaaDoor
open Go.RowKit Go.Shelf

set_option maxHeartbeats 1000000 in
set_option maxRecDepth 100000 in
theorem split_walk (A : Option Addr) (n c : Nat) (xs : List Int) (w : World) (hN : Nums w w.heap.size A n xs) (_hnil : A = none → n = 0 ∧ c = 0) (hn : n ≤ 9223372036854775807) (hrange : ∀ z ∈ xs, -2147483648 ≤ z ∧ z ≤ 2147483647) (hT : Lib.Utf8Tabs 0 1 w) :
    Calls Tryd.prog 3 #[.slice A n c] w fun e w' => e = .returned (.bool true) ∧ Below w.heap.size w w' := by
  by_cases hbig : 100 < n
  · have hbz : (100 : Int) < (n : Int) := by omega
    have cA := Lib.hid (awake_true w hT)
    clear hrange hN
    go_enter Tryd.func3, Tryd.ntmps3
    go_wp2_with fail
    refine cA.out.mono ?_
    rintro e w1 ⟨rfl, hb⟩
    go_wp2
    go_ret
    exact ⟨rfl, hb⟩
  · have hbz : ¬ (100 : Int) < (n : Int) := by omega
    have HN := Lib.hid hN
    have HR := Lib.hid hrange
    have hlen : (Cl.split xs).length ≤ 100 := by have := Cl.split_len xs; have := hN.1; omega
    have c1 := Lib.hid (split_any A n c w.heap.size xs w (Nat.le_refl _) hN (by omega))
    clear hrange hN
    go_enter Tryd.func3, Tryd.ntmps3
    go_wp2_with fail
    refine c1.out.mono ?_
    rintro e w1 ⟨A1, n1, k1, rfl, g1⟩
    have b1 := g1.2.2
    have T1 := Utf8Tabs_below hT b1
    have HS1 := Lib.hid g1.1
    have hn1 : n1 ≤ 100 := by have := g1.1.1; rw [List.length_map] at this; omega
    clear g1 c1
    have c2 := Lib.hid (refsplit_any A n c w.heap.size xs w1 b1.size (HN.out.below b1 (Nat.le_refl _)) (by omega) HR.out)
    go_wp2_with fail
    refine c2.out.mono ?_
    rintro e w2 ⟨A2, n2, k2, rfl, g2⟩
    have T2 := Utf8Tabs_below T1 g2.2.2
    have b2 := b1.trans (g2.2.2.mono b1.size)
    have HS1' := Lib.hid (HS1.out.below g2.2.2 (Nat.le_refl _))
    have HS2 := Lib.hid g2.1
    clear g2 c2
    have c3 := Lib.hid (sameS_true A1 A2 n1 n2 k1 k2 _ _ _ w2 (by omega) HS1'.out HS2.out)
    go_wp2_with fail
    refine c3.out.mono ?_
    rintro e w3 ⟨rfl, m, rfl⟩
    have T3 : Lib.Utf8Tabs 0 1 (w2.drewN m) := T2
    have b3 := below_drewN b2 m
    generalize w2.drewN m = w3 at T3 b3 ⊢
    have cA := Lib.hid (awake_true w3 T3)
    go_wp2_with fail
    refine cA.out.mono ?_
    rintro e w4 ⟨rfl, b4⟩
    go_wp2
    go_ret
    exact ⟨rfl, b3.trans (b4.mono b3.size)⟩

end Go.Proofs.YtjoaaehfplcanaaDoor
