/-
  The statement of layer 10 on the bounds: the walk.
-/
import Derived.Test.YteenjjiobibokaaCuWalkI1
import Derived.Test.YteenjjiobibokaaCuWalkI2
namespace Go.Proofs.Yteenjjiobibokaa
open Go.RowKit Cu

theorem inside_walk (r c : Int) (p : Bool) (W H T E : Int) (O : Bool) (n m : Int) (w : World) :
    Calls Try.prog 5 #[.agg #[.int .i64 r, .int .i64 c, .bool p], .agg #[.int .i64 W, .int .i64 H, .int .i64 T, .int .i64 E, .bool O], .int .i64 n, .int .i64 m] w fun e w' => e = .returned (.bool true) ∧ Below w.heap.size w w' := by
  by_cases h : Ok W H T E
  · have r0 := lim_ge r 0 (H - 1)
    have r1 := lim_le r 0 (H - 1) (by unfold Ok at h; omega)
    have c0 := lim_ge c 0 (W - 1)
    have c1 := lim_le c 0 (W - 1) (by unfold Ok at h; omega)
    have q1 := up_in h _ n r0 r1
    have q2 := ri_in h (lim c 0 (W - 1)) n
    have q3 := to_in h O n
    have q4 := toCol_in h m
    have q5 := feed_in h _ r0 r1
    have q6 := back_in h _ r0 r1
    refine inner_ok r c p W H T E O n m _ _ _ _ _ _ _ _ _ _ _ _ w (fun U => up_ok W H T E r c n O p h U) (fun U => right_ok W H T E r c n O p h U) (fun U => to_ok W H T E r c n m O p h U) (fun U => feed_ok W H T E r c O p h U) (fun U => back_ok W H T E r c O p h U) (check_yes W H T E O h) (fun j hj => ?_) (by split <;> omega) (by split <;> omega)
    have e : j = 0 ∨ j = 1 ∨ j = 2 ∨ j = 3 ∨ j = 4 := by omega
    rcases e with rfl | rfl | rfl | rfl | rfl
    · show 0 ≤ upRow H T E (lim r 0 (H - 1)) n ∧ upRow H T E (lim r 0 (H - 1)) n < H ∧ 0 ≤ lim c 0 (W - 1) ∧ lim c 0 (W - 1) < W
      omega
    · show 0 ≤ lim r 0 (H - 1) ∧ lim r 0 (H - 1) < H ∧ 0 ≤ riCol W (lim c 0 (W - 1)) n ∧ riCol W (lim c 0 (W - 1)) n < W
      omega
    · show 0 ≤ toRow H T E O n ∧ toRow H T E O n < H ∧ 0 ≤ toCol W m ∧ toCol W m < W
      omega
    · show 0 ≤ feedRow H E (lim r 0 (H - 1)) ∧ feedRow H E (lim r 0 (H - 1)) < H ∧ 0 ≤ lim c 0 (W - 1) ∧ lim c 0 (W - 1) < W
      omega
    · show 0 ≤ backRow T (lim r 0 (H - 1)) ∧ backRow T (lim r 0 (H - 1)) < H ∧ 0 ≤ lim c 0 (W - 1) ∧ lim c 0 (W - 1) < W
      omega
  · refine inner_no r c p W H T E O n m _ _ _ _ _ _ _ _ _ _ _ _ w (fun U => up_no W H T E r c n O p h U) (fun U => right_no W H T E r c n O p h U) (fun U => to_no W H T E r c n m O p h U) (fun U => feed_no W H T E r c O p h U) (fun U => back_no W H T E r c O p h U) (check_no W H T E O h) (fun j hj => ?_) rfl rfl
    have e : j = 0 ∨ j = 1 ∨ j = 2 ∨ j = 3 ∨ j = 4 := by omega
    rcases e with rfl | rfl | rfl | rfl | rfl <;> exact ⟨rfl, rfl⟩

end Go.Proofs.Yteenjjiobibokaa
