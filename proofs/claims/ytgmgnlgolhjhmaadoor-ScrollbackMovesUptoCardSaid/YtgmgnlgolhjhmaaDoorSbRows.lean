/-
  What the functions rows and proper of the statements return.
-/
import Derived.Test.YtgmgnlgolhjhmaaDoorSbRef
import Derived.Laws.RangeString
namespace Go.Proofs.YtgmgnlgolhjhmaaDoor
open Go.RowKit Go.Shelf Cr Gd

set_option maxHeartbeats 2000000 in
set_option maxRecDepth 100000 in
theorem rows_any (s : ByteArray) (n : Nat) (hn : s.size = n) (hn10 : n ≤ 10) (ha : ∀ i (h : i < s.size), (s[i]'h).toNat < 128) (w : World) :
    Calls Tryd.prog 31 #[.string s] w fun e w' => ∃ A c, e = .returned (.slice A n c) ∧ GR w w' (.slice A n c) (colL s n) := by
  obtain ⟨V, hV⟩ : ∃ V, (w.alloc (.cells #[] 25)).alloc (.stringIter s 0) = V := ⟨_, rfl⟩
  have hall : V.heap[w.heap.size + 1]? = some (.stringIter s 0) ∧ GR w V (.slice (some ⟨w.heap.size, 0, none⟩) 0 0) [] := by
    subst hV
    have g1 := GR.empty w
    have e1 : (w.alloc (.cells #[] 25)).heap.size = w.heap.size + 1 := by simp
    generalize w.alloc (.cells #[] 25) = w1 at e1 g1 ⊢
    have h3 := heap_alloc_new w1 (.stringIter s 0)
    rw [e1] at h3
    exact ⟨h3, g1.alloc _⟩
  have HALL := Lib.hid hall
  have hnz : (n : Int) ≤ 10 := by omega
  have HN := Lib.hid hn
  have HA0 := Lib.hid ha
  have hV' : (w.alloc (.cells #[] 25)).iter s 0 = V := hV
  clear hall ha hV
  go_enter Tryd.func31, Tryd.ntmps31
  go_wp2
  clear hn
  go_loopg [3, 4] (n + 1) (fun gk v3 _ wr => ∃ k : Nat, gk + k = n + 1 ∧ k ≤ n ∧ ∃ A c, v3 = .slice A k c ∧ Aside (wr.heap[w.heap.size + 1]? = some (.stringIter s k) ∧ GR w wr (.slice A k c) (colL s k)))
  case atStart => exact ⟨0, by omega, Nat.zero_le _, _, 0, rfl, HALL.out⟩
  case round =>
    obtain ⟨k, hg, hkn, A, c, rfl, hA⟩ := hrel
    obtain ⟨k2, hG⟩ := hA.out
    by_cases hlt : k < n
    · obtain ⟨g', rfl⟩ : ∃ g', gk = g' + 1 := ⟨gk - 1, by omega⟩
      have hks : k < s.size := by rw [HN.out]; exact hlt
      have hnx := fun ty => run_next_at (P := Tryd.prog) k2 hks (HA0.out k hks) ty
      have l2 := (Array.getElem?_eq_some_iff.1 k2).1
      obtain ⟨W, hW⟩ : ∃ W, stepIt wr (w.heap.size + 1) s (k + 1) = W := ⟨_, rfl⟩
      have m2 : W.heap[w.heap.size + 1]? = some (.stringIter s (k + 1)) := by rw [← hW]; exact stepIt_same s _ l2
      have mG : GR w W (.slice A k c) (colL s k) := by rw [← hW]; exact hG.step k2 (by omega) _
      rw [hW] at hnx
      generalize (s[k]'hks).toNat = ch at hnx
      obtain ⟨j, hj⟩ : ∃ j, k + 1 = j := ⟨_, rfl⟩
      obtain ⟨t, ht⟩ : ∃ t, s.extract k j = t := ⟨_, rfl⟩
      have bA := (Below.refl W.heap.size W).alloc (Nat.le_refl _) (oneC t)
      have hin : In (W.alloc (oneC t)) (.slice (some ⟨W.heap.size, 0, none⟩) 1 1) [pl t 1] := ⟨_, 1, 1, rfl, oneC_in W t, Nat.le_refl _, (fun e => by cases e), by decide⟩
      have hoff : Off (.slice A k c) (.slice (some ⟨W.heap.size, 0, none⟩) 1 1) := Off.fresh mG (fun p e => by injection e with e; rw [← e]; exact Nat.le_refl _)
      have hy := RdQ.one hin hoff
      have e : (W.alloc (oneC t)).heap.size = W.heap.size + 1 := by simp
      rw [e] at hy
      have Gx := (mG.alloc (oneC t)).alloc (.cells #[.slice (some ⟨W.heap.size, 0, none⟩) 1 1] 25)
      have HLL : Hid ((colL s k).length = k) := Lib.hid (colL_length s k)
      have hsuc : colL s k ++ [[pl t 1]] = colL s (k + 1) := by rw [colL_succ, hj, ht]
      have bX := bA.trans (((Below.refl (W.alloc (oneC t)).heap.size (W.alloc (oneC t))).alloc (Nat.le_refl _) (.cells #[.slice (some ⟨W.heap.size, 0, none⟩) 1 1] 25)).mono bA.size)
      have mx := (bX.block _ (Array.getElem?_eq_some_iff.1 m2).1).trans m2
      obtain ⟨A4, c4, w4, hrun, hG4, hg4, _⟩ := run_joinR 22 w _ _ (colL s k) [[pl t 1]] _ 1 1 Gx hy (fun e => by cases e) (by rw [HLL.out]; simp; omega)
      have hll : (colL s k).length + ([[pl t 1]] : List (List C)).length = j := by rw [HLL.out, ← hj]; rfl
      rw [hll] at hrun hG4
      have m4 : w4.heap[w.heap.size + 1]? = some (.stringIter s (k + 1)) := (hg4.block _ (Array.getElem?_eq_some_iff.1 mx).1 (Gx.ne mx (fun cs fr e => by cases e))).trans mx
      rw [hsuc] at hG4
      have HRUN : Hid (∀ ty, (Builtin.append_ #[22, 22] ty #[.slice A k c, .slice (some ⟨W.heap.size + 1, 0, none⟩) 1 1]).run Tryd.prog ((W.alloc (oneC t)).alloc (.cells #[.slice (some ⟨W.heap.size, 0, none⟩) 1 1] 25)) = .ok (.slice A4 j c4) w4) := Lib.hid (fun ty => hrun)
      have HG4 := Lib.hid hG4
      have M4 := Lib.hid m4
      have hks2 : (j : Int) ≤ (s.size : Int) := by rw [HN.out]; omega
      have hwr : IntKind.i64.wrap ((k : Int) + 1) = (j : Int) := by rw [IntKind.wrap_i64]; omega
      have hkj : (k : Int) ≤ (j : Int) := by omega
      have hj0 : (0 : Int) ≤ (j : Int) := by omega
      have hk0 : (0 : Int) ≤ (k : Int) := by omega
      have HJ := Lib.hid hj
      unfold oneC at HRUN
      clear hA k2 hG m2 mG bA hin hoff hy hW bX mx Gx hsuc hll hrun hG4 hg4 m4 hj e
      go_wp2_with (at_builtin; refine Lib.wpList_append_run _ rfl (.tmp 11) (.tmp 20) _ _ rfl _ _ rfl rfl _ _ (HRUN.out _) ?_)
      go_roundg g'
      case measure => omega
      case rel =>
        have := HJ.out
        subst this
        exact ⟨k + 1, by omega, by omega, A4, c4, rfl, M4.out, HG4.out⟩
    · have hk : k = n := by omega
      subst hk
      have hnx := fun ty => run_end_at (P := Tryd.prog) k2 (by rw [HN.out]; omega) ty
      have GG := Lib.hid hG
      clear hA k2 hG
      go_wp2
      go_ret
      exact ⟨A, c, rfl, GG.out⟩

end Go.Proofs.YtgmgnlgolhjhmaaDoor
