/-
  The document's own Erase and Fit of layer 7.
-/
import Derived.Test.YtcljmmadimldlaaDoorCrRefs
namespace Go.Proofs.YtcljmmadimldlaaDoor
open Go.RowKit Go.Shelf Cr

/-- Erased up to a column. -/
def part (X : List C) (i r : Nat) (b : Int) : List C := X.take i ++ blanks (r - i) b ++ X.drop r
theorem part_start (X : List C) (i : Nat) (b : Int) : part X i i b = X := by
  unfold part
  rw [Nat.sub_self]
  simp [blanks]
theorem part_length {X : List C} {i r : Nat} (h1 : i ≤ r) (h2 : r ≤ X.length) (b : Int) : (part X i r b).length = X.length := by
  unfold part
  rw [List.length_append, List.length_append, blanks_length, List.length_take, List.length_drop]
  omega
theorem part_step {X : List C} {i r : Nat} (h1 : i ≤ r) (h2 : r < X.length) (b : Int) : (part X i r b).set r (Cr.blank b) = part X i (r + 1) b := by
  have hl : (X.take i ++ blanks (r - i) b).length = r := by rw [List.length_append, blanks_length, List.length_take]; omega
  have e : blanks (r + 1 - i) b = blanks (r - i) b ++ [Cr.blank b] := by
    rw [blanks_succ]
    congr 1
    omega
  unfold part
  rw [List.set_append_right _ _ (by omega), hl, Nat.sub_self, List.drop_eq_getElem_cons h2, List.set_cons_zero, e, ← List.append_assoc, List.append_assoc (X.take i ++ blanks (r - i) b)]
  rfl
theorem part_end {l : List C} (h : Pr l) {i j : Nat} (hij : i ≤ j) (hj : j ≤ l.length) (b : Int) : part (sep (sep l i) j) i j b = repl l i j (blanks (j - i) b) := by
  unfold part repl
  rw [two_left h i j hij hj, two_right h i j hij hj]

set_option maxHeartbeats 4000000 in
set_option maxRecDepth 100000 in
theorem referase_any (A : Option Addr) (n c : Nat) (l : List C) (x y : Int) (f b g : Int) (w : World) (hr : Rd w A n l) (hmax : n ≤ 9223372036854775807) (ht : ∀ x ∈ l, x.t.size ≤ 300) :
    Calls Tryd.prog 28 #[.slice A n c, .int .i64 x, .int .i64 y, .agg #[.int .i64 f, .int .i64 b, .int .i64 g]] w fun e w' => ∃ A' n' c', e = .returned (.tuple #[.slice A' n' c', .int .i64 (eraE l x y : Nat)]) ∧ GivesC w w' A' n' c' (eraL l x y b) := by
  have hl : l.length = n := hr.1
  obtain ⟨W, hW⟩ : ∃ W, w.alloc (.cells #[.int .i64 f, .int .i64 b, .int .i64 g] 24) = W := ⟨_, rfl⟩
  have bW : Below w.heap.size w W := by rw [← hW]; exact (Below.refl _ _).alloc (Nat.le_refl _) _
  have hkA : W.heap[w.heap.size]? = some (.cells #[.int .i64 f, .int .i64 b, .int .i64 g] 24) := by rw [← hW]; exact heap_alloc_new w _
  have HKA := Lib.hid (fun W' (h : Below W.heap.size W W') => (h.block _ (Array.getElem?_eq_some_iff.1 hkA).1).trans hkA)
  have HR := Lib.hid hr
  have HW := Lib.hid bW
  have CC := Lib.hid (refCheckRow_any A n c l W (hr.below bW) hmax ht)
  obtain ⟨q, hq⟩ : ∃ q, check l = q := ⟨_, rfl⟩
  rw [hq] at CC
  have hE : eraE l x y = if q ≠ 0 then 1 else if x < 0 ∨ y < x ∨ (n : Int) < y then 2 else 0 := by unfold eraE; rw [hq, hl]
  have hbad : eraE l x y ≠ 0 → eraL l x y b = [] := fun h => by unfold eraL; rw [if_pos h]
  clear hr bW hkA ht
  by_cases h0 : q = 0
  · subst h0
    have hP := check_zero.1 hq
    by_cases h1 : x < 0 ∨ y < x ∨ (n : Int) < y
    · have e2 : eraE l x y = 2 := by rw [hE, if_neg (by simp), if_pos h1]
      rw [e2, hbad (by omega)]
      have hor : x < 0 ∨ (¬ x < 0 ∧ y < x) ∨ (¬ x < 0 ∧ ¬ y < x ∧ (n : Int) < y) := by omega
      clear hE hbad e2 hq hP h1
      rcases hor with ha | ⟨ha, hb⟩ | ⟨ha, hb, hd⟩
      all_goals
        go_enter Tryd.func28, Tryd.ntmps28
        go_wp2_with fail
        refine CC.out.mono ?_
        rintro e w1 ⟨rfl, b1⟩
        have B1 := Lib.hid (HW.out.trans (b1.mono HW.out.size))
        clear b1 CC
        go_wp2
        go_ret2
        exact ⟨_, _, _, rfl, gives_nil B1.out⟩
    · have e2 : eraE l x y = 0 := by rw [hE, if_neg (by simp), if_neg h1]
      obtain ⟨i, rfl⟩ : ∃ i : Nat, x = (i : Int) := ⟨x.toNat, by omega⟩
      obtain ⟨j, rfl⟩ : ∃ j : Nat, y = (j : Int) := ⟨y.toNat, by omega⟩
      obtain ⟨ab, ao, rfl⟩ := HR.out.addr (by omega)
      have CP := Lib.hid (fun W' (h : Rd W' (some ⟨ab, ao, none⟩) n l) => copied_any ab ao n c l (by omega) W' h)
      have hx0 : ¬ (i : Int) < 0 := by omega
      have hxy : ¬ (j : Int) < (i : Int) := by omega
      have hyn : ¬ (n : Int) < (j : Int) := by omega
      have hn132 : (n : Int) ≤ 132 := by omega
      by_cases he : i = j
      · have L2 : eraL l (i : Int) (j : Int) b = l := by unfold eraL; rw [if_neg (by omega), if_pos (by omega)]
        rw [e2, L2]
        subst he
        have hself := beq_self_eq_true (i : Int)
        clear hE hbad e2 L2 hq hP h1
        go_enter Tryd.func28, Tryd.ntmps28
        go_wp2_with fail
        refine CC.out.mono ?_
        rintro e w1 ⟨rfl, b1⟩
        have B1 := Lib.hid (HW.out.trans (b1.mono HW.out.size))
        clear b1 CC
        go_wp2_with fail
        refine (CP.out w1 (HR.out.below B1.out)).mono ?_
        rintro e w2 ⟨g2, c2, rfl, hO⟩
        have G := Lib.hid (hO.mine.gives.rebase B1.out)
        clear hO CP
        go_wp2
        go_ret2
        exact ⟨_, _, _, rfl, G.out⟩
      · have L2 : eraL l (i : Int) (j : Int) b = part (sep (sep l i) j) i j b := by
          unfold eraL
          rw [if_neg (by omega), if_neg (by omega), Int.toNat_natCast, Int.toNat_natCast, part_end hP.2.2 (by omega) (by omega)]
        rw [e2, L2]
        have hneq : ((i : Int) == (j : Int)) = false := beq_eq_false_iff_ne.2 (by omega)
        have P1 : Pr (sep l i) := sep_Pr hP.2.2 i (by omega)
        have CS1 := Lib.hid (fun (w0 : World) (g' cap : Nat) (W' : World) (h : Own w0 W' (.slice (some ⟨g', 0, none⟩) n cap) l) => refsep_any w0 g' n cap l hP.2.2 i (by omega) (by omega) W' h)
        have CS2 := Lib.hid (fun (w0 : World) (g' cap : Nat) (W' : World) (h : Own w0 W' (.slice (some ⟨g', 0, none⟩) n cap) (sep l i)) => refsep_any w0 g' n cap (sep l i) P1 j (by omega) (by omega) W' h)
        have hXl : (sep (sep l i) j).length = n := by rw [sep_length, sep_length, hl]
        obtain ⟨X, hX⟩ : ∃ X, sep (sep l i) j = X := ⟨_, rfl⟩
        rw [hX] at CS2 hXl ⊢
        have HXL := Lib.hid hXl
        have CB := Lib.hid (fun W' => refblank_any b W')
        have hij : i < j ∧ j ≤ n := by omega
        have HIJ := Lib.hid hij
        clear hE hbad e2 L2 hq hP h1 P1 hX hXl he hij
        go_enter Tryd.func28, Tryd.ntmps28
        go_wp2_with fail
        refine CC.out.mono ?_
        rintro e w1 ⟨rfl, b1⟩
        have B1 := Lib.hid (HW.out.trans (b1.mono HW.out.size))
        have BW1 := Lib.hid b1
        clear b1 CC
        go_wp2_with fail
        refine (CP.out w1 (HR.out.below B1.out)).mono ?_
        rintro e w2 ⟨g2, cap, rfl, hO⟩
        have O2 := Lib.hid hO
        clear hO CP
        go_wp2_with fail
        refine (CS1.out w1 g2 cap w2 O2.out).mono ?_
        rintro e w3 ⟨rfl, hO3⟩
        have O3 := Lib.hid hO3
        clear hO3 CS1 O2
        go_wp2_with fail
        refine (CS2.out w1 g2 cap w3 O3.out).mono ?_
        rintro e w4 ⟨rfl, hO4⟩
        have O4 := Lib.hid hO4
        clear hO4 CS2 O3
        go_wp2
        go_loopg [11] (j + 1) (fun gk v11 wr => ∃ r : Nat, j < gk + r ∧ i ≤ r ∧ r ≤ j ∧ v11 = .int .i64 (r : Int) ∧ Aside (Own w1 wr (.slice (some ⟨g2, 0, none⟩) n cap) (part X i r b)))
        case atStart => exact ⟨i, by have := HIJ.out; omega, Nat.le_refl _, by have := HIJ.out; omega, rfl, by rw [part_start]; exact O4.out⟩
        case round =>
          obtain ⟨r, hgk, hir, hrj, rfl, hA⟩ := hrel
          by_cases hlt : r < j
          · obtain ⟨gf, rfl⟩ : ∃ gf, gk = gf + 1 := ⟨gk - 1, by omega⟩
            have hz : (r : Int) < (j : Int) := by omega
            have hz0 : (0 : Int) ≤ (r : Int) := by omega
            have hrn : r < n := by have := HIJ.out; omega
            have hrz : (r : Int) < (n : Int) := by omega
            have hpl : (part X i r b).length = n := by rw [part_length hir (by rw [HXL.out]; omega), HXL.out]
            obtain ⟨u, hu⟩ : ∃ u, (part X i r b)[r]? = some u := ⟨_, List.getElem?_eq_getElem (show r < (part X i r b).length by omega)⟩
            have HU := Lib.hid hu
            have HPS := Lib.hid (part_step (X := X) hir (by rw [HXL.out]; exact hrn) b)
            have HPL := Lib.hid hpl
            have p1 := cell_of_row wr _ 1 _ _ _ (HKA.out wr (BW1.out.trans (hA.out.2.mono BW1.out.size)))
            clear hu hpl
            go_wp2_with fail
            refine (CB.out wr).mono ?_
            rintro e w5 ⟨rfl, b5⟩
            have O5 := Lib.hid (hA.out.below b5)
            obtain ⟨⟨s0, s1, s2, s3, s4⟩, sf⟩ := O5.out.here r u HU.out
            have O6 := Lib.hid (O5.out.put r (Cr.blank b) (by rw [HPL.out]; exact hrn))
            rw [HPS.out] at O6
            clear b5 p1 hA
            go_wp2
            go_roundg gf
            case measure => omega
            case rel => exact ⟨r + 1, by omega, by omega, by omega, by go_num, O6.out⟩
          · have hz : ¬ (r : Int) < (j : Int) := by omega
            have hq : r = j := by omega
            subst hq
            go_wp2
            go_ret2
            exact ⟨_, _, _, rfl, hA.out.mine.gives.rebase B1.out⟩
  · have hqb : (((q : Nat) : Int) != 0) = true := nat_ne h0
    have e2 : eraE l x y = 1 := by rw [hE, if_pos h0]
    rw [e2, hbad (by omega)]
    clear hE hbad e2 hq
    go_enter Tryd.func28, Tryd.ntmps28
    go_wp2_with fail
    refine CC.out.mono ?_
    rintro e w1 ⟨rfl, b1⟩
    have B1 := Lib.hid (HW.out.trans (b1.mono HW.out.size))
    clear b1 CC
    go_wp2
    go_ret2
    exact ⟨_, _, _, rfl, gives_nil B1.out⟩

end Go.Proofs.YtcljmmadimldlaaDoor
