/-
  The search of a table: what slices.IndexFunc, slices.ContainsFunc, within, Mark and Width of charwidth return, for every number.
-/
import Derived.Test.YtcljmmadimldlaaDoorTabs
namespace Go.Proofs.YtcljmmadimldlaaDoor
open Go.RowKit

set_option maxRecDepth 100000 in
/-- The closure of within: the entry's two numbers, and r in the cell of block p. -/
theorem entry_any (a b r : Int) (p : Nat) (w : World) (hp : w.cell? ⟨p, 0, none⟩ = some (.int .i32 r)) (hlt : p < w.heap.size) :
    Calls Tryd.prog 78 #[.agg #[.int .i32 a, .int .i32 b], .pointer (some ⟨p, 0, none⟩)] w fun e w' => e = .returned (.bool (Cw.hit (a, b) r)) ∧ Below w.heap.size w w' := by
  have hne : p ≠ w.heap.size := by omega
  by_cases h1 : a ≤ r <;> by_cases h2 : r ≤ b
  all_goals
    go_enter Tryd.func78, Tryd.ntmps78
    go_wp2
    go_ret
    exact ⟨ret_bool (by simp [Cw.hit, h1, h2]), (Below.refl _ w).alloc (Nat.le_refl _) _⟩

set_option maxHeartbeats 1000000 in
set_option maxRecDepth 100000 in
theorem index_any (g n c p : Nat) (r : Int) (ps : List (Int × Int)) (w : World) (hn : ps.length = n) (hbig : n ≤ 1000) (hT : Tab w g ps) (hp : w.cell? ⟨p, 0, none⟩ = some (.int .i32 r)) (hlt : p < w.heap.size) :
    Calls Tryd.prog 84 #[.slice (some ⟨g, 0, none⟩) n c, .func (.func 78) #[] #[.pointer (some ⟨p, 0, none⟩)]] w
      fun e w' => (∃ z : Int, e = .returned (.int .i64 z) ∧ decide (0 ≤ z) = Cw.hits ps r) ∧ Below w.heap.size w w' := by
  go_enter Tryd.func84, Tryd.ntmps84
  go_wp2
  go_loopg [5, 8] n (fun gg _ s8 wr => ∃ k : Nat, k ≤ n ∧ n - k ≤ gg ∧ s8 = .int .i64 k ∧ Aside (Below w.heap.size w wr) ∧ Aside (∀ j, j < k → Cw.hit (ps.getD j (0, 0)) r = false))
  case atStart => exact ⟨0, Nat.zero_le _, by omega, rfl, Below.refl _ w, fun j hj => absurd hj (Nat.not_lt_zero _)⟩
  case round =>
    obtain ⟨k, hk, hg, rfl, BW, A⟩ := hrel
    by_cases hkn : k < n
    · have hz : (k : Int) < (n : Int) := by omega
      have hz0 : (0 : Int) ≤ (k : Int) := by omega
      obtain ⟨c1, c2⟩ := hT.2 k (by omega)
      have d1 := (BW.out.cell (p := ⟨g, k * 2, none⟩) hT.1).trans c1
      have d2 := (BW.out.cell (p := ⟨g, k * 2 + 1, none⟩) hT.1).trans c2
      have hpp := (BW.out.cell (p := ⟨p, 0, none⟩) hlt).trans hp
      have hsz := BW.out.size
      have hcall := entry_any (ps.getD k (0, 0)).1 (ps.getD k (0, 0)).2 r p wr hpp (by omega)
      have HT := Lib.hid hT
      clear hT hp hpp c1 c2
      obtain ⟨y, hy⟩ : ∃ y, ps.getD k (0, 0) = y := ⟨_, rfl⟩
      rw [hy] at d1 d2 hcall
      have HY := Lib.hid hy
      clear hy
      obtain ⟨a, b⟩ := y
      cases hq : Cw.hit (a, b) r with
      | true =>
        rw [hq] at hcall
        have HQ := Lib.hid hq
        clear hq
        go_wp2_with (go_at_call 78; refine hcall.mono ?_; rintro e w' ⟨rfl, hb'⟩)
        go_ret
        refine ⟨⟨_, rfl, ?_⟩, BW.out.trans (hb'.mono hsz)⟩
        rw [Cw.hits_of k (by omega) (by rw [HY.out]; exact HQ.out)]
        simp
      | false =>
        rw [hq] at hcall
        have HQ := Lib.hid hq
        clear hq
        go_wp2_with (go_at_call 78; refine hcall.mono ?_; rintro e w' ⟨rfl, hb'⟩)
        go_roundg (n - (k + 1))
        case measure => omega
        case rel =>
          refine ⟨k + 1, by omega, by omega, by go_num, BW.out.trans (hb'.mono hsz), (show Aside _ from fun j hj => ?_)⟩
          by_cases e : j = k
          · subst e
            rw [HY.out]; exact HQ.out
          · exact A.out j (by omega)
    · have hz : ¬ (k : Int) < (n : Int) := by omega
      have HT := Lib.hid hT
      clear hT
      go_wp2
      go_ret
      refine ⟨⟨_, rfl, ?_⟩, BW.out⟩
      rw [Cw.hits_none (fun j hj => A.out j (by omega))]
      rfl

end Go.Proofs.YtcljmmadimldlaaDoor
