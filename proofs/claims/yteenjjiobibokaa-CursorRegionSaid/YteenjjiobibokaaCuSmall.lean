/-
  Cursors and bounds in memory; what Check, the limits, the tests of a row and rows return.
-/
import Derived.Test.YteenjjiobibokaaCuMath
import Derived.WalkKit
import Derived.WalkSpells
import Derived.WalkLawsBesides
import Derived.BigQuiet
import Derived.Laws.Rows
import Derived.Deep.QuietTactic
import Derived.Deep.Draws
import Derived.Lib.Hide
import Derived.Deep.Light
import Derived.Deep.LoopGhost
namespace Go.Proofs.Yteenjjiobibokaa
open Go.RowKit Cu

theorem ret_bool {a b : Bool} (h : a = b) : Ending.returned (.bool a) = .returned (.bool b) := by rw [h]
theorem ret_int {k : IntKind} {a b : Int} (h : a = b) : Ending.returned (.int k a) = .returned (.int k b) := by rw [h]
theorem below_drewN {B : Nat} {a w : World} (h : Below B a w) (n : Nat) : Below B a (w.drewN n) := ⟨h.os, h.tape, h.output, h.size, h.block⟩
theorem below_step {w a b : World} (h : Below w.heap.size w a) (h2 : Below a.heap.size a b) : Below w.heap.size w b := h.trans (h2.mono h.size)

/-- The bounds lie in block k. -/
def Bd (w : World) (k : Nat) (W H T E : Int) (O : Bool) : Prop := w.heap[k]? = some (.cells #[.int .i64 W, .int .i64 H, .int .i64 T, .int .i64 E, .bool O] 25)
/-- The cursor lies in block k. -/
def Cr (w : World) (k : Nat) (r c : Int) (p : Bool) : Prop := w.heap[k]? = some (.cells #[.int .i64 r, .int .i64 c, .bool p] 23)
/-- The number lies in block k. -/
def Nu (w : World) (k : Nat) (n : Int) : Prop := w.heap[k]? = some (.cells #[.int .i64 n] 3)

theorem lt_of_block {w : World} {k : Nat} {o : Obj} (h : w.heap[k]? = some o) : k < w.heap.size := by
  rcases Nat.lt_or_ge k w.heap.size with h' | h'
  · exact h'
  · rw [Array.getElem?_eq_none h'] at h; cases h

section
variable {w w' : World} {k : Nat} {W H T E : Int} {O : Bool} {r c : Int} {p : Bool} {n : Int}
theorem Bd.lt (h : Bd w k W H T E O) : k < w.heap.size := lt_of_block h
theorem Bd.c0 (h : Bd w k W H T E O) : w.cell? ⟨k, 0, none⟩ = some (.int .i64 W) := cell_of_row w k 0 _ _ _ h
theorem Bd.c1 (h : Bd w k W H T E O) : w.cell? ⟨k, 1, none⟩ = some (.int .i64 H) := cell_of_row w k 1 _ _ _ h
theorem Bd.c2 (h : Bd w k W H T E O) : w.cell? ⟨k, 2, none⟩ = some (.int .i64 T) := cell_of_row w k 2 _ _ _ h
theorem Bd.c3 (h : Bd w k W H T E O) : w.cell? ⟨k, 3, none⟩ = some (.int .i64 E) := cell_of_row w k 3 _ _ _ h
theorem Bd.c4 (h : Bd w k W H T E O) : w.cell? ⟨k, 4, none⟩ = some (.bool O) := cell_of_row w k 4 _ _ _ h
theorem Bd.below (h : Bd w k W H T E O) (hb : Below w.heap.size w w') : Bd w' k W H T E O := (hb.block k h.lt).trans h
theorem Bd.laid (w : World) (W H T E : Int) (O : Bool) : Bd (w.alloc (.cells #[.int .i64 W, .int .i64 H, .int .i64 T, .int .i64 E, .bool O] 25)) w.heap.size W H T E O := heap_alloc_new w _
theorem Cr.lt (h : Cr w k r c p) : k < w.heap.size := lt_of_block h
theorem Cr.c0 (h : Cr w k r c p) : w.cell? ⟨k, 0, none⟩ = some (.int .i64 r) := cell_of_row w k 0 _ _ _ h
theorem Cr.c1 (h : Cr w k r c p) : w.cell? ⟨k, 1, none⟩ = some (.int .i64 c) := cell_of_row w k 1 _ _ _ h
theorem Cr.c2 (h : Cr w k r c p) : w.cell? ⟨k, 2, none⟩ = some (.bool p) := cell_of_row w k 2 _ _ _ h
theorem Cr.z (h : Cr w k r c p) (j : Nat) : w.frozen? ⟨k, j, none⟩ = false := frozen_of_row w k j _ _ h
theorem Cr.below (h : Cr w k r c p) (hb : Below w.heap.size w w') : Cr w' k r c p := (hb.block k h.lt).trans h
theorem Cr.laid (w : World) (r c : Int) (p : Bool) : Cr (w.alloc (.cells #[.int .i64 r, .int .i64 c, .bool p] 23)) w.heap.size r c p := heap_alloc_new w _
theorem Nu.lt (h : Nu w k n) : k < w.heap.size := lt_of_block h
theorem Nu.c0 (h : Nu w k n) : w.cell? ⟨k, 0, none⟩ = some (.int .i64 n) := cell_of_row w k 0 _ _ _ h
theorem Nu.z (h : Nu w k n) (j : Nat) : w.frozen? ⟨k, j, none⟩ = false := frozen_of_row w k j _ _ h
theorem Nu.below (h : Nu w k n) (hb : Below w.heap.size w w') : Nu w' k n := (hb.block k h.lt).trans h
theorem Nu.laid (w : World) (n : Int) : Nu (w.alloc (.cells #[.int .i64 n] 3)) w.heap.size n := heap_alloc_new w _
end

set_option maxHeartbeats 1000000 in
set_option maxRecDepth 100000 in
theorem check_yes (W H T E : Int) (O : Bool) (h : Ok W H T E) (w : World) : Calls Try.prog 11 #[.agg #[.int .i64 W, .int .i64 H, .int .i64 T, .int .i64 E, .bool O]] w fun e w' => e = .returned (.int .i64 0) ∧ Below w.heap.size w w' := by
  obtain ⟨h1, h2, h3, h4, h5, h6, h7⟩ := h
  have a1 : ¬ W < 1 := by omega
  have a2 : ¬ 132 < W := by omega
  have a3 : ¬ H < 1 := by omega
  have a4 : ¬ 60 < H := by omega
  have a5 : ¬ T < 0 := by omega
  have a6 : ¬ E ≤ T := by omega
  have a7 : ¬ H < E := by omega
  go_enter Try.func11, Try.ntmps11
  go_wp2
  go_ret
  exact ⟨rfl, (Below.refl _ w).alloc (Nat.le_refl _) _⟩

set_option maxHeartbeats 1000000 in
set_option maxRecDepth 100000 in
theorem refCheck_yes (W H T E : Int) (O : Bool) (h : Ok W H T E) (w : World) : Calls Try.prog 12 #[.agg #[.int .i64 W, .int .i64 H, .int .i64 T, .int .i64 E, .bool O]] w fun e w' => e = .returned (.int .i64 0) ∧ Below w.heap.size w w' := by
  obtain ⟨h1, h2, h3, h4, h5, h6, h7⟩ := h
  have a1 : ¬ W < 1 := by omega
  have a2 : ¬ 132 < W := by omega
  have a3 : ¬ H < 1 := by omega
  have a4 : ¬ 60 < H := by omega
  have a5 : ¬ T < 0 := by omega
  have a6 : ¬ E ≤ T := by omega
  have a7 : ¬ H < E := by omega
  go_enter Try.func12, Try.ntmps12
  go_wp2
  go_ret
  exact ⟨rfl, (Below.refl _ w).alloc (Nat.le_refl _) _⟩

theorem no_cases {W H T E : Int} (h : ¬ Ok W H T E) : (W < 1) ∨ (¬ W < 1 ∧ 132 < W) ∨ (¬ W < 1 ∧ ¬ 132 < W ∧ H < 1) ∨ (¬ W < 1 ∧ ¬ 132 < W ∧ ¬ H < 1 ∧ 60 < H) ∨ (¬ W < 1 ∧ ¬ 132 < W ∧ ¬ H < 1 ∧ ¬ 60 < H ∧ T < 0) ∨ (¬ W < 1 ∧ ¬ 132 < W ∧ ¬ H < 1 ∧ ¬ 60 < H ∧ ¬ T < 0 ∧ E ≤ T) ∨ (¬ W < 1 ∧ ¬ 132 < W ∧ ¬ H < 1 ∧ ¬ 60 < H ∧ ¬ T < 0 ∧ ¬ E ≤ T ∧ H < E) := by
  unfold Ok at h
  omega

set_option maxHeartbeats 1000000 in
set_option maxRecDepth 100000 in
theorem check_no (W H T E : Int) (O : Bool) (h : ¬ Ok W H T E) (w : World) : Calls Try.prog 11 #[.agg #[.int .i64 W, .int .i64 H, .int .i64 T, .int .i64 E, .bool O]] w fun e w' => e = .returned (.int .i64 2) ∧ Below w.heap.size w w' := by
  rcases no_cases h with h1 | ⟨h1, h2⟩ | ⟨h1, h2, h3⟩ | ⟨h1, h2, h3, h4⟩ | ⟨h1, h2, h3, h4, h5⟩ | ⟨h1, h2, h3, h4, h5, h6⟩ | ⟨h1, h2, h3, h4, h5, h6, h7⟩
  all_goals
    clear h
    go_enter Try.func11, Try.ntmps11
    go_wp2
    go_ret
    exact ⟨rfl, (Below.refl _ w).alloc (Nat.le_refl _) _⟩

set_option maxHeartbeats 1000000 in
set_option maxRecDepth 100000 in
theorem refCheck_no (W H T E : Int) (O : Bool) (h : ¬ Ok W H T E) (w : World) : Calls Try.prog 12 #[.agg #[.int .i64 W, .int .i64 H, .int .i64 T, .int .i64 E, .bool O]] w fun e w' => e = .returned (.int .i64 2) ∧ Below w.heap.size w w' := by
  rcases no_cases h with h1 | ⟨h1, h2⟩ | ⟨h1, h2, h3⟩ | ⟨h1, h2, h3, h4⟩ | ⟨h1, h2, h3, h4, h5⟩ | ⟨h1, h2, h3, h4, h5, h6⟩ | ⟨h1, h2, h3, h4, h5, h6, h7⟩
  all_goals
    clear h
    go_enter Try.func12, Try.ntmps12
    go_wp2
    go_ret
    exact ⟨rfl, (Below.refl _ w).alloc (Nat.le_refl _) _⟩

set_option maxRecDepth 100000 in
theorem lim_any (n a z : Int) (w : World) : Calls Try.prog 37 #[.int .i64 n, .int .i64 a, .int .i64 z] w fun e w' => e = .returned (.int .i64 (lim n a z)) ∧ w = w' := by
  obtain ⟨x, hx⟩ : ∃ x, lim n a z = x := ⟨_, rfl⟩
  rw [hx]
  have HX := Lib.hid hx
  clear hx
  go_enter Try.func37, Try.ntmps37
  go_wp2
  all_goals
    go_ret
    refine ⟨ret_int ?_, rfl⟩
    have := HX.out
    unfold lim at this
    omega

set_option maxRecDepth 100000 in
theorem refLim_any (n a z : Int) (haz : a ≤ z) (w : World) : Calls Try.prog 32 #[.int .i64 n, .int .i64 a, .int .i64 z] w fun e w' => e = .returned (.int .i64 (lim n a z)) ∧ w = w' := by
  obtain ⟨x, hx⟩ : ∃ x, lim n a z = x := ⟨_, rfl⟩
  rw [hx]
  have HX := Lib.hid hx
  have HZ := Lib.hid haz
  clear hx haz
  by_cases h1 : n < a
  · go_enter Try.func32, Try.ntmps32
    go_wp2
    go_ret
    refine ⟨ret_int ?_, rfl⟩
    have := HX.out
    have := HZ.out
    unfold lim at *
    omega
  · by_cases h2 : z < n
    · go_enter Try.func32, Try.ntmps32
      go_wp2
      go_ret
      refine ⟨ret_int ?_, rfl⟩
      have := HX.out
      have := HZ.out
      unfold lim at *
      omega
    · go_enter Try.func32, Try.ntmps32
      go_wp2
      go_ret
      refine ⟨ret_int ?_, rfl⟩
      have := HX.out
      have := HZ.out
      unfold lim at *
      omega

set_option maxRecDepth 100000 in
theorem inReg_any (r W H T E : Int) (O : Bool) (w : World) : Calls Try.prog 39 #[.int .i64 r, .agg #[.int .i64 W, .int .i64 H, .int .i64 T, .int .i64 E, .bool O]] w fun e w' => e = .returned (.bool (reg T E r)) ∧ Below w.heap.size w w' := by
  by_cases h1 : T ≤ r <;> by_cases h2 : r < E
  all_goals
    go_enter Try.func39, Try.ntmps39
    go_wp2
    go_ret
    exact ⟨ret_bool (by simp [reg, h1, h2]), (Below.refl _ w).alloc (Nat.le_refl _) _⟩

set_option maxRecDepth 100000 in
theorem refIn_any (r W H T E : Int) (O : Bool) (w : World) : Calls Try.prog 31 #[.int .i64 r, .agg #[.int .i64 W, .int .i64 H, .int .i64 T, .int .i64 E, .bool O]] w fun e w' => e = .returned (.bool (reg T E r)) ∧ Below w.heap.size w w' := by
  by_cases h1 : T ≤ r <;> by_cases h2 : r < E
  all_goals
    go_enter Try.func31, Try.ntmps31
    go_wp2
    go_ret
    exact ⟨ret_bool (by simp [reg, h1, h2]), (Below.refl _ w).alloc (Nat.le_refl _) _⟩

set_option maxHeartbeats 1000000 in
set_option maxRecDepth 100000 in
theorem rows_any (W H T E : Int) (O q : Bool) (h : Ok W H T E) (w : World) : Calls Try.prog 35 #[.agg #[.int .i64 W, .int .i64 H, .int .i64 T, .int .i64 E, .bool O], .bool q] w fun e w' => e = .returned (.tuple #[.int .i64 (if q then T else 0), .int .i64 (if q then E - 1 else H - 1)]) ∧ Below w.heap.size w w' := by
  obtain ⟨h1, h2, h3, h4, h5, h6, h7⟩ := h
  have HB := Lib.hid (fun k => below_drewN ((Below.refl w.heap.size w).alloc (Nat.le_refl _) (.cells #[.int .i64 W, .int .i64 H, .int .i64 T, .int .i64 E, .bool O] 25)) k)
  cases q with
  | true =>
    go_enter Try.func35, Try.ntmps35
    go_wp2
    go_quiet (fail)
    go_wp2
    go_ret2
    exact ⟨rfl, HB.out _⟩
  | false =>
    go_enter Try.func35, Try.ntmps35
    go_wp2
    go_quiet (fail)
    go_wp2
    go_ret2
    exact ⟨rfl, HB.out _⟩

end Go.Proofs.Yteenjjiobibokaa
