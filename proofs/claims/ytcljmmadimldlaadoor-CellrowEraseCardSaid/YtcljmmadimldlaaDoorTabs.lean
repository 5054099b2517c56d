/-
  The tables of ranges: what Wide, markRanges and the document's own two tables lay.
-/
import Derived.Test.YtcljmmadimldlaaDoorSmall
import Derived.Test.YtcljmmadimldlaaDoorCMath
import Derived.WalkKit
import Derived.WalkSpells
import Derived.WalkLawsBesides
import Derived.BigQuiet
import Derived.Deep.QuietTactic
import Derived.Deep.Draws
import Derived.Lib.Hide
import Derived.Deep.Light
import Derived.Deep.LoopGhost
namespace Go.Proofs.YtcljmmadimldlaaDoor
open Go.RowKit

/-- The block g holds, in the world w, the ranges ps, one behind the other. -/
def Tab (w : World) (g : Nat) (ps : List (Int × Int)) : Prop :=
  g < w.heap.size ∧ ∀ j, j < ps.length → w.cell? ⟨g, j * 2, none⟩ = some (.int .i32 (ps.getD j (0, 0)).1) ∧ w.cell? ⟨g, j * 2 + 1, none⟩ = some (.int .i32 (ps.getD j (0, 0)).2)
theorem Tab.below {w w' : World} {B g : Nat} {ps : List (Int × Int)} (h : Tab w g ps) (hb : Below B w w') (hB : w.heap.size ≤ B) : Tab w' g ps :=
  ⟨Nat.lt_of_lt_of_le h.1 (by have := hb.size; omega), fun j hj => ⟨(hb.cell (p := ⟨g, j * 2, none⟩) (Nat.lt_of_lt_of_le h.1 hB)).trans (h.2 j hj).1, (hb.cell (p := ⟨g, j * 2 + 1, none⟩) (Nat.lt_of_lt_of_le h.1 hB)).trans (h.2 j hj).2⟩⟩
/-- The cells of a table. -/
def cellsOf (ps : List (Int × Int)) : List Value := ps.flatMap fun p => [.int .i32 p.1, .int .i32 p.2]
theorem cellsOf_get (ps : List (Int × Int)) (j : Nat) (hj : j < ps.length) : (cellsOf ps)[j * 2]? = some (.int .i32 (ps.getD j (0, 0)).1) ∧ (cellsOf ps)[j * 2 + 1]? = some (.int .i32 (ps.getD j (0, 0)).2) := by
  induction ps generalizing j with
  | nil => cases hj
  | cons p ps ih =>
    cases j with
    | zero => exact ⟨rfl, rfl⟩
    | succ j =>
      have hj' : j < ps.length := by simpa using hj
      have e1 : (j + 1) * 2 = j * 2 + 2 := by omega
      have e2 : (j + 1) * 2 + 1 = j * 2 + 1 + 2 := by omega
      have h := ih j hj'
      rw [e2, e1]
      exact h
theorem Tab.laid (w : World) (ps : List (Int × Int)) (t : TypeId) : Tab (w.alloc (.cells (cellsOf ps).toArray t)) w.heap.size ps := by
  refine ⟨by simp, fun j hj => ?_⟩
  have h := cellsOf_get ps j hj
  have e : (w.alloc (.cells (cellsOf ps).toArray t)).heap[w.heap.size]? = some (.cells (cellsOf ps).toArray t) := heap_alloc_new w _
  unfold World.cell?
  rw [e]
  exact ⟨by simpa using h.1, by simpa using h.2⟩

set_option maxHeartbeats 400000 in
set_option maxRecDepth 100000 in
theorem wide_any (w : World) :
    Calls Tryd.prog 66 #[] w fun e w' => e = .returned (.slice (some ⟨w.heap.size, 0, none⟩) 14 14) ∧ w' = w.alloc (.cells (cellsOf Cw.wide).toArray 95) := by
  go_enter Tryd.func66, Tryd.ntmps66
  go_wp2
  go_ret
  exact ⟨rfl, rfl⟩
set_option maxHeartbeats 400000 in
set_option maxRecDepth 100000 in
theorem refWide_any (w : World) :
    Calls Tryd.prog 71 #[] w fun e w' => e = .returned (.slice (some ⟨w.heap.size, 0, none⟩) 14 14) ∧ w' = w.alloc (.cells (cellsOf Cw.wide).toArray 95) := by
  go_enter Tryd.func71, Tryd.ntmps71
  go_wp2
  go_ret
  exact ⟨rfl, rfl⟩
set_option maxHeartbeats 400000 in
set_option maxRecDepth 100000 in
theorem marks_any (w : World) :
    Calls Tryd.prog 76 #[] w fun e w' => e = .returned (.slice (some ⟨w.heap.size, 0, none⟩) 7 7) ∧ w' = w.alloc (.cells (cellsOf Cw.marks).toArray 95) := by
  go_enter Tryd.func76, Tryd.ntmps76
  go_wp2
  go_ret
  exact ⟨rfl, rfl⟩
set_option maxHeartbeats 400000 in
set_option maxRecDepth 100000 in
theorem refMarks_any (w : World) :
    Calls Tryd.prog 70 #[] w fun e w' => e = .returned (.slice (some ⟨w.heap.size, 0, none⟩) 7 7) ∧ w' = w.alloc (.cells (cellsOf Cw.marks).toArray 95) := by
  go_enter Tryd.func70, Tryd.ntmps70
  go_wp2
  go_ret
  exact ⟨rfl, rfl⟩

/-- What a call of one of the four tables leaves. -/
theorem table_of {f n : Nat} {ps : List (Int × Int)} {w : World} (h : Calls Tryd.prog f #[] w fun e w' => e = .returned (.slice (some ⟨w.heap.size, 0, none⟩) n n) ∧ w' = w.alloc (.cells (cellsOf ps).toArray 95)) :
    Calls Tryd.prog f #[] w fun e w' => e = .returned (.slice (some ⟨w.heap.size, 0, none⟩) n n) ∧ Tab w' w.heap.size ps ∧ Below w.heap.size w w' :=
  h.mono fun _ _ ⟨he, hw⟩ => ⟨he, hw ▸ Tab.laid w ps _, hw ▸ (Below.refl _ w).alloc (Nat.le_refl _) _⟩


set_option maxRecDepth 100000 in
theorem control_any (r : Int) (w : World) : Calls Tryd.prog 63 #[.int .i32 r] w fun e w' => e = .returned (.bool (Cw.ctl r)) ∧ w = w' := by
  have hR := Lib.hid (show Cw.ctl r = true ↔ _ from Cw.ctl_iff r)
  go_enter Tryd.func63, Tryd.ntmps63
  go_wp2
  all_goals
    go_ret
    refine ⟨ret_bool ?_, rfl⟩
    have hr := hR.out
    clear hR
    rw [Bool.eq_iff_iff, hr]
    simp
    try omega

end Go.Proofs.YtcljmmadimldlaaDoor
