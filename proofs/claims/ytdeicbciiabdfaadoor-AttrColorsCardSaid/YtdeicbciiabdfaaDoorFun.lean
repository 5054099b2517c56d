/-
  The table of the flags in memory, and what the small functions of attr return.
-/
import Derived.Test.YtdeicbciiabdfaaDoorProg
import Derived.Test.YtdeicbciiabdfaaDoorAtMath
import Derived.WalkKit
import Derived.WalkSpells
import Derived.WalkLawsBesides
import Derived.BigQuiet
import Derived.Laws.Rows
import Derived.Deep.QuietTactic
import Derived.Deep.Draws
import Derived.Lib.Hide
import Derived.Deep.Light
import Derived.Deep.LoopGhost
namespace Go.Proofs.YtdeicbciiabdfaaDoor
open Go.RowKit

/-- The cells of the table of the flags. -/
def tcs : Array Value := #[.int .i64 1, .int .i64 1, .int .i64 22, .int .i64 2, .int .i64 2, .int .i64 22, .int .i64 4, .int .i64 3, .int .i64 23, .int .i64 8, .int .i64 4, .int .i64 24, .int .i64 16, .int .i64 5, .int .i64 25, .int .i64 32, .int .i64 7, .int .i64 27, .int .i64 64, .int .i64 8, .int .i64 28, .int .i64 128, .int .i64 9, .int .i64 29]
/-- The table lies in its variable. -/
def Tb (w : World) : Prop := ∃ t fr, w.heap[0]? = some (.cells tcs t fr)
theorem Tb.lt {w : World} (h : Tb w) : 0 < w.heap.size := by
  obtain ⟨t, fr, h⟩ := h
  rcases Nat.lt_or_ge 0 w.heap.size with h' | h'
  · exact h'
  · rw [Array.getElem?_eq_none h'] at h; cases h
theorem Tb.below {w w' : World} {B : Nat} (h : Tb w) (hb : Below B w w') (hB : w.heap.size ≤ B) : Tb w' := by
  have hl := h.lt
  obtain ⟨t, fr, h⟩ := h
  exact ⟨t, fr, (hb.block _ (by omega)).trans h⟩
theorem ret_bool {a b : Bool} (h : a = b) : Ending.returned (.bool a) = .returned (.bool b) := by rw [h]
theorem ret_int {k : IntKind} {a b : Int} (h : a = b) : Ending.returned (.int k a) = .returned (.int k b) := by rw [h]

theorem tcs_at (k : Nat) (hk : k < 8) (w : World) : (Instr.index 44 (.agg tcs) (.int .i64 k)).run Tryd.prog w = .ok (.agg #[.int .i64 (At.tb.getD k (0, 0, 0)).1, .int .i64 (At.tb.getD k (0, 0, 0)).2.1, .int .i64 (At.tb.getD k (0, 0, 0)).2.2]) w := by
  obtain rfl | rfl | rfl | rfl | rfl | rfl | rfl | rfl : k = 0 ∨ k = 1 ∨ k = 2 ∨ k = 3 ∨ k = 4 ∨ k = 5 ∨ k = 6 ∨ k = 7 := by omega
  all_goals kernel_rfl

set_option maxRecDepth 100000 in
theorem default_any (w : World) : Calls Tryd.prog 10 #[] w fun e w' => e = .returned (.agg #[.int .i64 (-1), .int .i64 (-1), .int .i64 0]) ∧ Below w.heap.size w w' := by
  go_enter Tryd.func10, Tryd.ntmps10
  go_wp2
  refine bodyPost_ret (v := .agg #[.int .i64 (-1), .int .i64 (-1), .int .i64 0]) (by simp [results, Tryd.results10, go_sem]) rfl ⟨rfl, ?_⟩
  exact (Below.refl _ w).alloc (Nat.le_refl _) _

set_option maxHeartbeats 400000 in
set_option maxRecDepth 100000 in
theorem colorAfter_any (c n : Int) (w : World) (h0 : -10 ≤ n) (h1 : n ≤ 9223372036854775807) :
    Calls Tryd.prog 17 #[.int .i64 c, .int .i64 n] w fun e w' => e = .returned (.int .i64 (At.col c n)) ∧ w = w' := by
  obtain ⟨z, hz⟩ : ∃ z, At.col c n = z := ⟨_, rfl⟩
  rw [hz]
  unfold At.col at hz
  have HZ := Lib.hid hz
  clear hz
  by_cases a1 : 30 ≤ n <;> by_cases a2 : n < 38 <;> by_cases a3 : 90 ≤ n <;> by_cases a4 : n < 98 <;> by_cases a5 : n = 39
  all_goals try (exfalso; omega)
  all_goals
    have e5 : (n == 39) = decide (n = 39) := by by_cases n = 39 <;> simp_all
    simp only [a5, decide_true, decide_false] at e5
    go_enter Tryd.func17, Tryd.ntmps17
    go_wp2
    go_ret
    refine ⟨ret_int ?_, rfl⟩
    have q := HZ.out
    simp [a1, a2, a3, a4, a5] at q
    omega

set_option maxRecDepth 100000 in
theorem level_any (x : Int) (w : World) (h0 : 0 ≤ x) (h1 : x ≤ 255) :
    Calls Tryd.prog 21 #[.int .i64 x] w fun e w' => e = .returned (.int .i64 (At.lv x)) ∧ w = w' := by
  go_enter Tryd.func21, Tryd.ntmps21
  go_wp2
  go_ret
  refine ⟨ret_int ?_, rfl⟩
  unfold At.lv
  omega

set_option maxRecDepth 100000 in
theorem isColor_any (c : Int) (w : World) :
    Calls Tryd.prog 8 #[.int .i64 c] w fun e w' => e = .returned (.bool (decide (-1 ≤ c ∧ c ≤ 255))) ∧ w = w' := by
  by_cases a1 : -1 ≤ c <;> by_cases a2 : c ≤ 255
  all_goals
    go_enter Tryd.func8, Tryd.ntmps8
    go_wp2
    go_ret
    refine ⟨ret_bool ?_, rfl⟩
    simp [a1, a2]

end Go.Proofs.YtdeicbciiabdfaaDoor
