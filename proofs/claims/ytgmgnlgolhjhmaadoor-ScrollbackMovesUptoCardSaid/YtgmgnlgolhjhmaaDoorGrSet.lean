/-
  What Set and Resize of grid return.
-/
import Derived.Test.YtgmgnlgolhjhmaaDoorGrEnd
namespace Go.Proofs.YtgmgnlgolhjhmaaDoor
open Go.RowKit Go.Shelf Cr Gd

/-- The world behind the entry of a function with a grid and a result grid: the grid lies in the block w.heap.size, the result in the next one. -/
theorem two_in (w : World) (W H : Int) (A : Option Addr) (n c : Nat) :
    Kg ((w.alloc (.cells #[.int .i64 W, .int .i64 H, .slice A n c] 35)).alloc (.cells #[.int .i64 0, .int .i64 0, .slice none 0 0] 35)) w.heap.size W H A n c ∧
    Kg ((w.alloc (.cells #[.int .i64 W, .int .i64 H, .slice A n c] 35)).alloc (.cells #[.int .i64 0, .int .i64 0, .slice none 0 0] 35)) (w.heap.size + 1) 0 0 none 0 0 ∧
    Below w.heap.size w ((w.alloc (.cells #[.int .i64 W, .int .i64 H, .slice A n c] 35)).alloc (.cells #[.int .i64 0, .int .i64 0, .slice none 0 0] 35)) := by
  have h1 := Kg.new w W H A n c
  have h2 := Kg.new (w.alloc (.cells #[.int .i64 W, .int .i64 H, .slice A n c] 35)) 0 0 none 0 0
  rw [show (w.alloc (.cells #[.int .i64 W, .int .i64 H, .slice A n c] 35)).heap.size = w.heap.size + 1 by simp] at h2
  have b1 := (Below.refl w.heap.size w).alloc (Nat.le_refl _) (.cells #[.int .i64 W, .int .i64 H, .slice A n c] 35)
  exact ⟨h1.below ((Below.refl _ _).alloc (Nat.le_refl _) _), h2, b1.alloc b1.size _⟩

theorem useE_zero {W H : Int} {L : List (List C)} {r : Bool} (h : useE W H L r = 0) : gE W H L = 0 ∧ r = true := by
  unfold useE at h
  split at h
  · cases h
  · split at h
    · rename_i h1 h2; exact ⟨by omega, h2⟩
    · cases h
theorem setR_bad {W H : Int} {L : List (List C)} {row : Int} {l : List C} (h : useE W H L (decide (0 ≤ row ∧ row < H)) ≠ 0) : setR W H L row l = bad (useE W H L (decide (0 ≤ row ∧ row < H))) := by
  unfold setR useE at *
  split
  · rfl
  · rename_i h1
    rw [if_neg h1] at h
    split
    · rename_i h2; rw [decide_eq_false h2, if_neg (by decide)]
    · rename_i h2
      rw [decide_eq_true (Decidable.not_not.1 h2), if_pos rfl] at h
      exact absurd rfl h
theorem setR_ok {W H : Int} {L : List (List C)} {row : Int} {l : List C} (h : useE W H L (decide (0 ≤ row ∧ row < H)) = 0) : setR W H L row l = if check l ≠ 0 then bad (check l) else if (l.length : Int) ≠ W then bad 12 else ⟨0, W, H, L.set row.toNat l, []⟩ := by
  obtain ⟨h1, h2⟩ := useE_zero h
  unfold setR
  rw [if_neg (by omega), if_neg (by have := of_decide_eq_true h2; omega)]

end Go.Proofs.YtgmgnlgolhjhmaaDoor
