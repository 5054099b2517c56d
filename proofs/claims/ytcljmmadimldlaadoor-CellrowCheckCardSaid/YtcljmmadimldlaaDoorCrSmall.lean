/-
  What the small functions of cellrow return: blank, secondHalf, isLength; bits.Mul of small numbers.
-/
import Derived.Test.YtcljmmadimldlaaDoorCrApp
import Derived.Laws.Bits64b
namespace Go.Proofs.YtcljmmadimldlaaDoor
open Go.RowKit Cr

set_option maxRecDepth 100000 in
theorem blank_any (b : Int) (w : World) : Calls Tryd.prog 58 #[.int .i64 b] w fun e w' => e = .returned (.agg #[.string ⟨#[32]⟩, .int .i64 1, .int .i64 (-1), .int .i64 b, .int .i64 0]) ∧ Below w.heap.size w w' := by
  go_enter Tryd.func58, Tryd.ntmps58
  go_wp2
  refine bodyPost_ret (results_cell_row rfl _ _ _ 48 _ (0, 0) _ rfl (heap_alloc_new w _) Tryd.underlying48 rfl (by kernel_rfl)) rfl ⟨rfl, (Below.refl _ _).alloc (Nat.le_refl _) _⟩
set_option maxRecDepth 100000 in
theorem half_any (f b g : Int) (w : World) : Calls Tryd.prog 51 #[.agg #[.int .i64 f, .int .i64 b, .int .i64 g]] w fun e w' => e = .returned (.agg #[.string ⟨#[]⟩, .int .i64 0, .int .i64 f, .int .i64 b, .int .i64 g]) ∧ Below w.heap.size w w' := by
  go_enter Tryd.func51, Tryd.ntmps51
  go_wp2
  refine bodyPost_ret (results_cell_row rfl _ _ (w.heap.size + 1) 48 _ (0, 0) _ rfl (by have h := heap_alloc_new (w.alloc (.cells #[.int .i64 f, .int .i64 b, .int .i64 g] 24)) (.cells #[.string ⟨#[]⟩, .int .i64 0, .int .i64 f, .int .i64 b, .int .i64 g] 48); simpa using h) Tryd.underlying48 rfl (by kernel_rfl)) rfl ⟨rfl, ((Below.refl _ _).alloc (Nat.le_refl _) _).alloc (by simp) _⟩
set_option maxRecDepth 100000 in
theorem isLength_any (n : Int) (w : World) : Calls Tryd.prog 33 #[.int .i64 n] w fun e w' => e = .returned (.bool (decide (1 ≤ n ∧ n ≤ 132))) ∧ w = w' := by
  by_cases h : 1 ≤ n
  · by_cases h2 : n ≤ 132
    · rw [decide_eq_true ⟨h, h2⟩]
      go_enter Tryd.func33, Tryd.ntmps33
      go_wp2
      go_ret
      exact ⟨rfl, rfl⟩
    · rw [decide_eq_false (fun e => h2 e.2)]
      go_enter Tryd.func33, Tryd.ntmps33
      go_wp2
      go_ret
      exact ⟨rfl, rfl⟩
  · rw [decide_eq_false (fun e => h e.1)]
    go_enter Tryd.func33, Tryd.ntmps33
    go_wp2
    go_ret
    exact ⟨rfl, rfl⟩

set_option maxHeartbeats 1000000 in
set_option maxRecDepth 100000 in
/-- The product of 1 and a small number. -/
theorem mul_one_any (n : Nat) (hn : n ≤ 1000) (w : World) : Calls Tryd.prog 73 #[.int .u64 1, .int .u64 (n : Int)] w fun e w' => e = .returned (.tuple #[.int .u64 0, .int .u64 (n : Int)]) ∧ w = w' := by
  have h1 : ∀ W : World, Calls Tryd.prog 82 #[.int .u64 1, .int .u64 (n : Int)] W fun e w' => e = .returned (.tuple #[.int .u64 0, .int .u64 (n : Int)]) ∧ W = w' := by
    intro W
    have hA : bits .and .u64 1 4294967295 = 1 := by decide
    have hB : bits .and .u64 (n : Int) 4294967295 = (n : Int) := by
      have h := bits_and_u64_nat n 4294967295 (by omega) (by decide)
      rw [show (4294967295 : Nat) = 2 ^ 32 - 1 from rfl, Nat.and_two_pow_sub_one_eq_mod, Nat.mod_eq_of_lt (by omega)] at h
      exact h
    have hC : (n : Int) / 4294967296 = 0 := by omega
    go_enter Tryd.func82, Tryd.ntmps82
    go_wp2
    go_ret2
    exact ⟨rfl, rfl⟩
  go_enter Tryd.func73, Tryd.ntmps73
  go_wp2_with fail
  refine (h1 _).mono ?_
  rintro e w1 ⟨rfl, rfl⟩
  go_wp2
  go_ret2
  exact ⟨rfl, rfl⟩

end Go.Proofs.YtcljmmadimldlaaDoor
