/-
  The examples of the chapter hold: the function awake of layer 10's statements returns true; what the function inside returns.
-/
import Derived.Test.YteenjjiobibokaaCuUp
import Derived.Test.YteenjjiobibokaaCuStep
import Derived.Test.YteenjjiobibokaaCuMove
namespace Go.Proofs.Yteenjjiobibokaa
open Go.RowKit Cu

theorem ok_ex : Ok 10 5 1 4 := by unfold Ok; omega

theorem ex_feed (w : World) : Calls Try.prog 22 #[.agg #[.int .i64 3, .int .i64 0, .bool false], .agg #[.int .i64 10, .int .i64 5, .int .i64 1, .int .i64 4, .bool false]] w
    fun e w' => e = .returned (.tuple #[.agg #[.int .i64 3, .int .i64 0, .bool false], .int .i64 1]) ∧ Below w.heap.size w w' := by
  have := feed_ok 10 5 1 4 3 0 false false ok_ex w
  rwa [show feedRow 5 4 (lim 3 0 (5 - 1)) = 3 by decide, show lim 0 0 (10 - 1) = 0 by decide, show (if lim 3 0 (5 - 1) = 4 - 1 then (1 : Int) else 0) = 1 by decide] at this
theorem ex_up2 (w : World) : Calls Try.prog 15 #[.agg #[.int .i64 2, .int .i64 0, .bool false], .int .i64 9, .agg #[.int .i64 10, .int .i64 5, .int .i64 1, .int .i64 4, .bool false]] w
    fun e w' => e = .returned (.agg #[.int .i64 1, .int .i64 0, .bool false]) ∧ Below w.heap.size w w' := by
  have := up_ok 10 5 1 4 2 0 9 false false ok_ex w
  rwa [show upRow 5 1 4 (lim 2 0 (5 - 1)) 9 = 1 by decide, show lim 0 0 (10 - 1) = 0 by decide] at this
theorem ex_up4 (w : World) : Calls Try.prog 15 #[.agg #[.int .i64 4, .int .i64 0, .bool false], .int .i64 9, .agg #[.int .i64 10, .int .i64 5, .int .i64 1, .int .i64 4, .bool false]] w
    fun e w' => e = .returned (.agg #[.int .i64 0, .int .i64 0, .bool false]) ∧ Below w.heap.size w w' := by
  have := up_ok 10 5 1 4 4 0 9 false false ok_ex w
  rwa [show upRow 5 1 4 (lim 4 0 (5 - 1)) 9 = 0 by decide, show lim 0 0 (10 - 1) = 0 by decide] at this

set_option maxHeartbeats 1000000 in
set_option maxRecDepth 100000 in
theorem awake_any (w : World) : Calls Try.prog 21 #[] w fun e w' => e = .returned (.bool true) ∧ Below w.heap.size w w' := by
  have eq1 := Try.stoodInHeld23
  have eq2 := Try.eqGuardType23
  have C1 := Lib.hid ex_feed
  have C2 := Lib.hid ex_up2
  have C3 := Lib.hid ex_up4
  have C4 := Lib.hid (fun w => check_yes 10 5 1 4 false ok_ex w)
  have KB := Lib.hid (Bd.laid w 10 5 1 4 false)
  have K0 := Lib.hid (below_alloc w (.cells #[.int .i64 10, .int .i64 5, .int .i64 1, .int .i64 4, .bool false] 25))
  go_enter Try.func21, Try.ntmps21
  go_wp2_with fail
  generalize w.alloc (.cells #[.int .i64 10, .int .i64 5, .int .i64 1, .int .i64 4, .bool false] 25) = w0 at KB K0 ⊢
  refine (C1.out _).mono ?_
  rintro e w1 ⟨rfl, b1⟩
  have b1' := below_step b1 (below_alloc w1 (.cells #[.int .i64 3, .int .i64 0, .bool false] 23))
  have q0 := KB.out.below b1'
  have q1 := Cr.laid w1 3 0 false
  have B1 := Lib.hid (below_step K0.out b1')
  have Q := Lib.hid (And.intro q0 q1)
  have m0 := q0.c0
  have m1 := q0.c1
  have m2 := q0.c2
  have m3 := q0.c3
  have m4 := q0.c4
  clear b1 b1' q0 q1 KB K0
  go_wp2_with fail
  clear m0 m1 m2 m3 m4
  generalize w1.alloc (.cells #[.int .i64 3, .int .i64 0, .bool false] 23) = w2 at B1 Q ⊢
  generalize w1.heap.size = k1 at Q ⊢
  refine (C2.out _).mono ?_
  rintro e w3 ⟨rfl, b3⟩
  have q0 := Q.out.1.below b3
  have B3 := Lib.hid (below_step B1.out b3)
  have Q3 := Lib.hid (And.intro q0 (Q.out.2.below b3))
  have m0 := q0.c0
  have m1 := q0.c1
  have m2 := q0.c2
  have m3 := q0.c3
  have m4 := q0.c4
  clear b3 q0 B1 Q
  go_wp2_with fail
  clear m0 m1 m2 m3 m4
  refine (C3.out _).mono ?_
  rintro e w4 ⟨rfl, b4⟩
  have q0 := Q3.out.1.below b4
  have q1 := Q3.out.2.below b4
  have B4 := Lib.hid (below_step B3.out b4)
  have m0 := q0.c0
  have m1 := q0.c1
  have m2 := q0.c2
  have m3 := q0.c3
  have m4 := q0.c4
  have v0 := q1.c0
  have v1 := q1.c1
  have v2 := q1.c2
  clear b4 q0 q1 B3 Q3
  go_wp2_with fail
  clear m0 m1 m2 m3 m4 v0 v1 v2
  refine (C4.out _).mono ?_
  rintro e w5 ⟨rfl, b5⟩
  have B5 := Lib.hid (below_step B4.out b5)
  clear b5 B4
  go_wp2
  go_ret
  exact ⟨rfl, B5.out⟩

/-- inside reports whether a cursor is inside. -/
theorem inside_yes (r c W H T E : Int) (O : Bool) (h : 0 ≤ r ∧ r < H ∧ 0 ≤ c ∧ c < W) (w : World) : Calls Try.prog 26 #[.agg #[.int .i64 r, .int .i64 c, .bool false], .agg #[.int .i64 W, .int .i64 H, .int .i64 T, .int .i64 E, .bool O]] w
    fun e w' => e = .returned (.bool true) ∧ Below w.heap.size w w' := by
  obtain ⟨h1, h2, h3, h4⟩ := h
  go_enter Try.func26, Try.ntmps26
  go_wp2
  go_ret
  exact ⟨rfl, below_step (below_alloc _ _) (below_alloc _ _)⟩
theorem inside_no (r c W H T E : Int) (O p : Bool) (h : ¬ (0 ≤ r ∧ r < H ∧ 0 ≤ c ∧ c < W ∧ p = false)) (w : World) : Calls Try.prog 26 #[.agg #[.int .i64 r, .int .i64 c, .bool p], .agg #[.int .i64 W, .int .i64 H, .int .i64 T, .int .i64 E, .bool O]] w
    fun e w' => e = .returned (.bool false) ∧ Below w.heap.size w w' := by
  have key : (¬ 0 ≤ r) ∨ (0 ≤ r ∧ ¬ r < H) ∨ (0 ≤ r ∧ r < H ∧ ¬ 0 ≤ c) ∨ (0 ≤ r ∧ r < H ∧ 0 ≤ c ∧ ¬ c < W) ∨ (0 ≤ r ∧ r < H ∧ 0 ≤ c ∧ c < W ∧ p = true) := by
    cases p
    · simp at h
      omega
    · simp
      omega
  clear h
  rcases key with h1 | ⟨h1, h2⟩ | ⟨h1, h2, h3⟩ | ⟨h1, h2, h3, h4⟩ | ⟨h1, h2, h3, h4, rfl⟩
  all_goals
    go_enter Try.func26, Try.ntmps26
    go_wp2
    go_ret
    exact ⟨rfl, below_step (below_alloc _ _) (below_alloc _ _)⟩

end Go.Proofs.Yteenjjiobibokaa
