/-
  What the function column of the statements returns.
-/
import Derived.Test.YtokeaoapcjlmkaaDoorGrStruct
namespace Go.Proofs.YtokeaoapcjlmkaaDoor
open Go.RowKit Go.Shelf Cr Gd

set_option maxHeartbeats 2000000 in
set_option maxRecDepth 100000 in
theorem column_any (s : ByteArray) (n : Nat) (hn : s.size = n) (hn10 : n ≤ 10) (ha : ∀ i (h : i < s.size), (s[i]'h).toNat < 128) (w : World) :
    Calls Tryd.prog 31 #[.string s] w fun e w' => ∃ A c, e = .returned (.agg #[.int .i64 1, .int .i64 (n : Int), .slice A n c]) ∧ Gv w w' A n c (colL s n) ∧ Below w.heap.size w w' := by
  obtain ⟨V, hV⟩ : ∃ V, ((w.alloc (.cells #[.int .i64 0, .int .i64 0, .slice none 0 0] 24)).alloc (.cells #[.int .i64 1, .int .i64 (n : Int), .slice none 0 0] 24)).alloc (.stringIter s 0) = V := ⟨_, rfl⟩
  have hall : Kg V w.heap.size 0 0 none 0 0 ∧ Kg V (w.heap.size + 1) 1 (n : Int) none 0 0 ∧ V.heap[w.heap.size + 1 + 1]? = some (.stringIter s 0) ∧ GR w V (.slice none 0 0) [] := by
    subst hV
    have h1 := Kg.new w 0 0 none 0 0
    have e1 : (w.alloc (.cells #[.int .i64 0, .int .i64 0, .slice none 0 0] 24)).heap.size = w.heap.size + 1 := by simp
    have g1 := (GR.start w).alloc (.cells #[.int .i64 0, .int .i64 0, .slice none 0 0] 24)
    generalize w.alloc (.cells #[.int .i64 0, .int .i64 0, .slice none 0 0] 24) = w1 at h1 e1 g1 ⊢
    have h2 := Kg.new w1 1 (n : Int) none 0 0
    have b2 := (Below.refl w1.heap.size w1).alloc (Nat.le_refl _) (.cells #[.int .i64 1, .int .i64 (n : Int), .slice none 0 0] 24)
    have e2 : (w1.alloc (.cells #[.int .i64 1, .int .i64 (n : Int), .slice none 0 0] 24)).heap.size = w.heap.size + 1 + 1 := by simp [e1]
    rw [e1] at h2
    generalize w1.alloc (.cells #[.int .i64 1, .int .i64 (n : Int), .slice none 0 0] 24) = w2 at h2 b2 e2 ⊢
    have b3 := (Below.refl w2.heap.size w2).alloc (Nat.le_refl _) (.stringIter s 0)
    have h3 := heap_alloc_new w2 (.stringIter s 0)
    rw [e2] at h3
    exact ⟨(h1.below b2).below b3, h2.below b3, h3, (g1.below b2).below b3⟩
  have HALL := Lib.hid hall
  have hnz : (n : Int) ≤ 10 := by omega
  have HN := Lib.hid hn
  have HA0 := Lib.hid ha
  have hV' : ((w.alloc (.cells #[.int .i64 0, .int .i64 0, .slice none 0 0] 24)).alloc (.cells #[.int .i64 1, .int .i64 (n : Int), .slice none 0 0] 24)).iter s 0 = V := hV
  have hsz : (s.size : Int) = (n : Int) := by omega
  clear hall ha hV
  go_enter Tryd.func31, Tryd.ntmps31
  go_wp2
  clear hsz hn
  go_loopg [4] (n + 1) (fun gk _ wr => ∃ k : Nat, gk + k = n + 1 ∧ k ≤ n ∧ Aside (∃ A c, Kg wr w.heap.size 0 0 none 0 0 ∧ Kg wr (w.heap.size + 1) 1 (n : Int) A k c ∧ wr.heap[w.heap.size + 1 + 1]? = some (.stringIter s k) ∧ GR w wr (.slice A k c) (colL s k)))
  case atStart => exact ⟨0, by omega, Nat.zero_le _, none, 0, HALL.out⟩
  case round =>
    obtain ⟨k, hg, hkn, hA⟩ := hrel
    obtain ⟨A, c, k0, k1, k2, hG⟩ := hA.out
    by_cases hlt : k < n
    · obtain ⟨g', rfl⟩ : ∃ g', gk = g' + 1 := ⟨gk - 1, by omega⟩
      have hks : k < s.size := by rw [HN.out]; exact hlt
      have hnx := fun ty => run_next_at (P := Tryd.prog) k2 hks (HA0.out k hks) ty
      have l2 := (Array.getElem?_eq_some_iff.1 k2).1
      obtain ⟨W, hW⟩ : ∃ W, stepIt wr (w.heap.size + 1 + 1) s (k + 1) = W := ⟨_, rfl⟩
      have m0 : Kg W w.heap.size 0 0 none 0 0 := by rw [← hW]; exact (stepIt_other wr _ s _ _ (by omega)).trans k0
      have m1 : Kg W (w.heap.size + 1) 1 (n : Int) A k c := by rw [← hW]; exact (stepIt_other wr _ s _ _ (by omega)).trans k1
      have m2 : W.heap[w.heap.size + 1 + 1]? = some (.stringIter s (k + 1)) := by rw [← hW]; exact stepIt_same s _ l2
      have mG : GR w W (.slice A k c) (colL s k) := by rw [← hW]; exact hG.step k2 (by omega) _
      rw [hW] at hnx
      generalize (s[k]'hks).toNat = ch at hnx
      obtain ⟨j, hj⟩ : ∃ j, k + 1 = j := ⟨_, rfl⟩
      obtain ⟨t, ht⟩ : ∃ t, s.extract k j = t := ⟨_, rfl⟩
      -- the cell, the row and its header are laid
      have bA := (Below.refl W.heap.size W).alloc (Nat.le_refl _) (oneC t)
      have hin : In (W.alloc (oneC t)) (.slice (some ⟨W.heap.size, 0, none⟩) 1 1) [pl t 1] := ⟨_, 1, 1, rfl, oneC_in W t, Nat.le_refl _, (fun e => by cases e), by decide⟩
      have hoff : Off (.slice A k c) (.slice (some ⟨W.heap.size, 0, none⟩) 1 1) := Off.fresh mG (fun p e => by injection e with e; rw [← e]; exact Nat.le_refl _)
      have hy := RdQ.one hin hoff
      have bB := (Below.refl (W.alloc (oneC t)).heap.size (W.alloc (oneC t))).alloc (Nat.le_refl _) (.cells #[.slice (some ⟨W.heap.size, 0, none⟩) 1 1] 39)
      obtain ⟨X, hX⟩ : ∃ X, ((W.alloc (oneC t)).alloc (.cells #[.slice (some ⟨W.heap.size, 0, none⟩) 1 1] 39)).drew = X := ⟨_, rfl⟩
      have bX : Below W.heap.size W X := by rw [← hX]; exact (bA.trans (bB.mono bA.size)).drew
      have HY : Hid (RdQ (Off (.slice A k c)) X (some ⟨W.heap.size + 1, 0, none⟩) 1 [[pl t 1]]) := Lib.hid (by
        rw [← hX]
        have e : (W.alloc (oneC t)).heap.size = W.heap.size + 1 := by simp
        rw [e] at hy
        exact hy)
      have HG := Lib.hid (mG.below bX)
      have M0 := Lib.hid (m0.below bX)
      have M1 := Lib.hid (m1.below bX)
      have M2 : Hid (X.heap[w.heap.size + 1 + 1]? = some (.stringIter s (k + 1))) := Lib.hid ((bX.block _ (Array.getElem?_eq_some_iff.1 m2).1).trans m2)
      have HSUC : Hid (colL s k ++ [[pl t 1]] = colL s (k + 1)) := Lib.hid (by rw [colL_succ, hj, ht])
      have HLL : Hid ((colL s k).length = k) := Lib.hid (colL_length s k)
      generalize colL s k = LL at HG HSUC HLL
      have HL1 : Hid (LL.length + ([[pl t 1]] : List (List C)).length ≤ 100000) := Lib.hid (by rw [HLL.out]; simp; omega)
      have c2 := m1.c2
      have c2a := (m1.below bA).c2
      have c2b := (m1.below (bA.trans (bB.mono bA.size))).c2
      have c2x := M1.out.c2
      have hks2 : (j : Int) ≤ (s.size : Int) := by rw [HN.out]; omega
      have hwr : IntKind.i64.wrap ((k : Int) + 1) = (j : Int) := by rw [IntKind.wrap_i64]; omega
      have hkj : (k : Int) ≤ (j : Int) := by omega
      have hj0 : (0 : Int) ≤ (j : Int) := by omega
      clear hj
      have hk0 : (0 : Int) ≤ (k : Int) := by omega
      unfold oneC at hX c2a c2b
      clear hA k0 k1 k2 hG m0 m1 m2 mG bA bB hin hoff hy hW bX
      go_wp2
      go_region_law (refine step_joinR (by rfl) (.tmp 14) (.tmp 23) (by rfl) w X _ LL [[pl t 1]] (some ⟨W.heap.size + 1, 0, none⟩) 1 1 (by rfl) (by rfl) HG.out HY.out (fun e => by cases e) HL1.out ?_; intro A4 c4 w4 hO4; have O4 := Lib.hid hO4.out.1; have N0 := Lib.hid (M0.out.grown HG.out hO4.out.2); have N1 := Lib.hid (M1.out.grown HG.out hO4.out.2); have N2 : Hid (w4.heap[w.heap.size + 1 + 1]? = some (.stringIter s (k + 1))) := Lib.hid ((hO4.out.2.block _ (Array.getElem?_eq_some_iff.1 M2.out).1 (HG.out.ne M2.out (fun cs fr e => by cases e))).trans M2.out); have d2 := N1.out.c2; have dz := N1.out.z; clear hO4)
      all_goals
        clear c2 c2a c2b c2x hX hnx
        go_wp2
        go_roundg g'
        case measure => omega
        case rel =>
          refine ⟨k + 1, by omega, by omega, A4, c4, N0.out.other (by omega) _, ?_, (heap_setCell_other w4 _ _ _ (by simp)).trans N2.out, ?_⟩
          · have h := N1.out.field A4 (LL.length + 1) c4
            rw [HLL.out] at h ⊢
            exact h
          · have h := O4.out.field N1.out (by omega) (.slice A4 (LL.length + 1) c4)
            rw [HSUC.out] at h
            have e : LL.length + ([[pl t 1]] : List (List C)).length = LL.length + 1 := rfl
            rw [e, HLL.out] at h
            rw [HLL.out]
            exact h
    · have hk : k = n := by omega
      subst hk
      have hnx := fun ty => run_end_at (P := Tryd.prog) k2 (by rw [HN.out]; omega) ty
      have c0 := k1.c0
      have c1 := k1.c1
      have c2 := k1.c2
      have d0 := k0.c0
      have d1 := k0.c1
      have d2 := k0.c2
      have dz := k0.z
      have K0 := Lib.hid k0
      have GG := Lib.hid hG
      clear hA k0 k1 k2 hG
      go_wp2
      refine bodyPost_ret (results_cell_row rfl _ _ _ 24 _ (0, 0) _ rfl (K0.out.put 1 (k : Int) A k c) Tryd.underlying24 rfl (by kernel_rfl)) rfl ?_
      refine ⟨A, c, rfl, ⟨GG.out.rd.1.g3 K0.out (fun p e => ?_) _ _ _, ⟨GG.out.rd.2.1, GG.out.rd.2.2.1⟩, GG.out.rd.2.2.2⟩, below_g3 GG.out.bel (Nat.le_refl _) _ _ _⟩
      subst e
      intro e
      exact GG.out.ne K0.out (grid_no _ _ _) (by simp [Value.ownBlock, e])

end Go.Proofs.YtokeaoapcjlmkaaDoor
