/-
  What the document's own Clamp, Feed and Reverse return.
-/
import Derived.Test.YteenjjiobibokaaCuRef
import Derived.Test.YteenjjiobibokaaCuStep
namespace Go.Proofs.Yteenjjiobibokaa
open Go.RowKit Cu

set_option maxHeartbeats 2000000 in
set_option maxRecDepth 100000 in
theorem refClamp_ok (W H T E r c : Int) (O p : Bool) (h : Ok W H T E) (w : World) :
    Calls Try.prog 14 #[.agg #[.int .i64 r, .int .i64 c, .bool p], .agg #[.int .i64 W, .int .i64 H, .int .i64 T, .int .i64 E, .bool O]] w
      fun e w' => e = .returned (.agg #[.int .i64 (lim r 0 (H - 1)), .int .i64 (lim c 0 (W - 1)), .bool (p && lim c 0 (W - 1) == W - 1)]) ∧ Below w.heap.size w w' := by
  have CK := Lib.hid (fun w => refCheck_yes W H T E O h w)
  have CS := Lib.hid (fun w => refStart_any W H T E r c O p h w)
  obtain ⟨a1, a2, a3, a4, a5, a6, a7⟩ := h
  generalize lim r 0 (H - 1) = r' at CS ⊢
  generalize lim c 0 (W - 1) = c' at CS ⊢
  obtain ⟨z, hz⟩ : ∃ z, (c' == W - 1) = z := ⟨_, rfl⟩
  rw [hz]
  have HK := Lib.hid (call_mem w r c W H T E O p)
  go_enter Try.func14, Try.ntmps14
  go_wp2_with fail
  refine (CK.out _).mono ?_
  rintro e w1 ⟨rfl, b1⟩
  obtain ⟨q1, q2, q3, q4, q5⟩ := HK.out _ b1
  have u0 := q2.c0
  have u1 := q2.c1
  have u2 := q2.c2
  have m0 := q3.c0
  have m1 := q3.c1
  have m2 := q3.c2
  have m3 := q3.c3
  have m4 := q3.c4
  have Q := Lib.hid (And.intro q1 (And.intro q2 (And.intro q3 q4)))
  clear b1 CK HK q1 q2 q3 q4 q5
  go_wp2_with fail
  clear u0 u1 u2 m0 m1 m2 m3 m4
  refine (CS.out _).mono ?_
  rintro e w2 ⟨rfl, b2⟩
  have b3 := below_step b2 (below_alloc w2 (.cells #[.int .i64 r', .int .i64 c', .bool false] 23))
  have q0 := below_step Q.out.1 b2
  have q2 := Q.out.2.1.below b2
  have q3 := Q.out.2.2.1.below b2
  have q4 := Q.out.2.2.2.below b2
  have l2 := q2.lt
  have l3 := q3.lt
  have l4 := q4.lt
  have n2 : w2.heap.size ≠ w.heap.size := by omega
  have n3 : w2.heap.size ≠ w.heap.size + 1 := by omega
  have n4 : w2.heap.size ≠ w.heap.size + 1 + 1 := by omega
  have u2 := (q2.below (below_alloc w2 (.cells #[.int .i64 r', .int .i64 c', .bool false] 23))).c2
  have m0 := (q3.below (below_alloc w2 (.cells #[.int .i64 r', .int .i64 c', .bool false] 23))).c0
  have t4 := fun x => q4.below (below_alloc w2 (.cells #[.int .i64 r', .int .i64 c', .bool x] 23))
  have t0 := fun x => below_step q0 (below_alloc w2 (.cells #[.int .i64 r', .int .i64 c', .bool x] 23))
  have T4 := Lib.hid t4
  have T0 := Lib.hid t0
  clear b2 b3 q0 q2 q3 q4 l2 l3 l4 Q CS t0 t4
  cases p with
  | true =>
    have r0 := fun x => (T4.out x).z 0
    have r1 := fun x => (T4.out x).z 1
    have r2 := fun x => (T4.out x).z 2
    have y0 := fun x => (T4.out x).c0
    have y1 := fun x => (T4.out x).c1
    have y2 := fun x => (T4.out x).c2
    go_wp2
    refine bodyPost_ret (res_c rfl _ _ (w.heap.size + 1 + 1) r' c' z rfl ((T4.out _).store3 _ _ _)) rfl ⟨rfl, ?_⟩
    exact below_store3 (T0.out _) (by omega) _ _ _
  | false =>
    have r0 := fun x => (T4.out x).z 0
    have r1 := fun x => (T4.out x).z 1
    have r2 := fun x => (T4.out x).z 2
    have y0 := fun x => (T4.out x).c0
    have y1 := fun x => (T4.out x).c1
    have y2 := fun x => (T4.out x).c2
    go_wp2
    refine bodyPost_ret (res_c rfl _ _ (w.heap.size + 1 + 1) r' c' false rfl ((T4.out _).store3 _ _ _)) rfl ⟨rfl, ?_⟩
    exact below_store3 (T0.out _) (by omega) _ _ _

set_option maxHeartbeats 1000000 in
set_option maxRecDepth 100000 in
theorem refClamp_no (W H T E r c : Int) (O p : Bool) (h : ¬ Ok W H T E) (w : World) :
    Calls Try.prog 14 #[.agg #[.int .i64 r, .int .i64 c, .bool p], .agg #[.int .i64 W, .int .i64 H, .int .i64 T, .int .i64 E, .bool O]] w
      fun e w' => e = .returned (.agg #[.int .i64 0, .int .i64 0, .bool false]) ∧ Below w.heap.size w w' := by
  have CK := Lib.hid (fun w => refCheck_no W H T E O h w)
  have HK := Lib.hid (call_mem w r c W H T E O p)
  clear h
  go_enter Try.func14, Try.ntmps14
  go_wp2_with fail
  refine (CK.out _).mono ?_
  rintro e w1 ⟨rfl, b1⟩
  obtain ⟨q1, q2, q3, q4, q5⟩ := HK.out _ b1
  clear b1 CK HK
  have r0 := q4.z 0
  have r1 := q4.z 1
  have r2 := q4.z 2
  have y0 := q4.c0
  have y1 := q4.c1
  have y2 := q4.c2
  have Q1 := Lib.hid q1
  have Q4 := Lib.hid q4
  clear q1 q2 q3 q4 q5
  go_wp2
  refine bodyPost_ret (res_c rfl _ _ (w.heap.size + 1 + 1) 0 0 false rfl (Q4.out.store3 _ _ _)) rfl ⟨rfl, ?_⟩
  exact below_store3 Q1.out (by omega) _ _ _

set_option maxHeartbeats 1000000 in
set_option maxRecDepth 100000 in
theorem refFeed_no (W H T E r c : Int) (O p : Bool) (h : ¬ Ok W H T E) (w : World) :
    Calls Try.prog 23 #[.agg #[.int .i64 r, .int .i64 c, .bool p], .agg #[.int .i64 W, .int .i64 H, .int .i64 T, .int .i64 E, .bool O]] w
      fun e w' => e = .returned (.tuple #[.agg #[.int .i64 0, .int .i64 0, .bool false], .int .i64 0]) ∧ Below w.heap.size w w' := by
  have CK := Lib.hid (fun w => refCheck_no W H T E O h w)
  have HK := Lib.hid (call_mem w r c W H T E O p)
  clear h
  go_enter Try.func23, Try.ntmps23
  go_wp2_with fail
  refine (CK.out _).mono ?_
  rintro e w1 ⟨rfl, b1⟩
  obtain ⟨q1, q2, q3, q4, q5⟩ := HK.out _ b1
  clear b1 CK HK
  have r0 := q4.z 0
  have r1 := q4.z 1
  have r2 := q4.z 2
  have y0 := q4.c0
  have y1 := q4.c1
  have y2 := q4.c2
  have Q1 := Lib.hid q1
  have Q4 := Lib.hid q4
  clear q1 q2 q3 q4 q5
  go_wp2
  refine bodyPost_ret (res_cn rfl _ _ (w.heap.size + 1 + 1) 0 0 false rfl (Q4.out.store3 _ _ _)) rfl ⟨rfl, ?_⟩
  exact below_store3 Q1.out (by omega) _ _ _

set_option maxHeartbeats 1000000 in
set_option maxRecDepth 100000 in
theorem refBack_no (W H T E r c : Int) (O p : Bool) (h : ¬ Ok W H T E) (w : World) :
    Calls Try.prog 25 #[.agg #[.int .i64 r, .int .i64 c, .bool p], .agg #[.int .i64 W, .int .i64 H, .int .i64 T, .int .i64 E, .bool O]] w
      fun e w' => e = .returned (.tuple #[.agg #[.int .i64 0, .int .i64 0, .bool false], .int .i64 0]) ∧ Below w.heap.size w w' := by
  have CK := Lib.hid (fun w => refCheck_no W H T E O h w)
  have HK := Lib.hid (call_mem w r c W H T E O p)
  clear h
  go_enter Try.func25, Try.ntmps25
  go_wp2_with fail
  refine (CK.out _).mono ?_
  rintro e w1 ⟨rfl, b1⟩
  obtain ⟨q1, q2, q3, q4, q5⟩ := HK.out _ b1
  clear b1 CK HK
  have r0 := q4.z 0
  have r1 := q4.z 1
  have r2 := q4.z 2
  have y0 := q4.c0
  have y1 := q4.c1
  have y2 := q4.c2
  have Q1 := Lib.hid q1
  have Q4 := Lib.hid q4
  clear q1 q2 q3 q4 q5
  go_wp2
  refine bodyPost_ret (res_cn rfl _ _ (w.heap.size + 1 + 1) 0 0 false rfl (Q4.out.store3 _ _ _)) rfl ⟨rfl, ?_⟩
  exact below_store3 Q1.out (by omega) _ _ _

set_option maxHeartbeats 1000000 in
set_option maxRecDepth 100000 in
theorem refUp_no (W H T E r c n : Int) (O p : Bool) (h : ¬ Ok W H T E) (w : World) :
    Calls Try.prog 16 #[.agg #[.int .i64 r, .int .i64 c, .bool p], .int .i64 n, .agg #[.int .i64 W, .int .i64 H, .int .i64 T, .int .i64 E, .bool O]] w
      fun e w' => e = .returned (.agg #[.int .i64 0, .int .i64 0, .bool false]) ∧ Below w.heap.size w w' := by
  have CK := Lib.hid (fun w => refCheck_no W H T E O h w)
  have HK := Lib.hid (call_mem w r c W H T E O p)
  clear h
  go_enter Try.func16, Try.ntmps16
  go_wp2_with fail
  refine (CK.out _).mono ?_
  rintro e w1 ⟨rfl, b1⟩
  obtain ⟨q1, q2, q3, q4, q5⟩ := HK.out _ b1
  clear b1 CK HK
  have r0 := q4.z 0
  have r1 := q4.z 1
  have r2 := q4.z 2
  have y0 := q4.c0
  have y1 := q4.c1
  have y2 := q4.c2
  have Q1 := Lib.hid q1
  have Q4 := Lib.hid q4
  clear q1 q2 q3 q4 q5
  go_wp2
  refine bodyPost_ret (res_c rfl _ _ (w.heap.size + 1 + 1) 0 0 false rfl (Q4.out.store3 _ _ _)) rfl ⟨rfl, ?_⟩
  exact below_store3 Q1.out (by omega) _ _ _

set_option maxHeartbeats 1000000 in
set_option maxRecDepth 100000 in
theorem refRight_no (W H T E r c n : Int) (O p : Bool) (h : ¬ Ok W H T E) (w : World) :
    Calls Try.prog 18 #[.agg #[.int .i64 r, .int .i64 c, .bool p], .int .i64 n, .agg #[.int .i64 W, .int .i64 H, .int .i64 T, .int .i64 E, .bool O]] w
      fun e w' => e = .returned (.agg #[.int .i64 0, .int .i64 0, .bool false]) ∧ Below w.heap.size w w' := by
  have CK := Lib.hid (fun w => refCheck_no W H T E O h w)
  have HK := Lib.hid (call_mem w r c W H T E O p)
  clear h
  go_enter Try.func18, Try.ntmps18
  go_wp2_with fail
  refine (CK.out _).mono ?_
  rintro e w1 ⟨rfl, b1⟩
  obtain ⟨q1, q2, q3, q4, q5⟩ := HK.out _ b1
  clear b1 CK HK
  have r0 := q4.z 0
  have r1 := q4.z 1
  have r2 := q4.z 2
  have y0 := q4.c0
  have y1 := q4.c1
  have y2 := q4.c2
  have Q1 := Lib.hid q1
  have Q4 := Lib.hid q4
  clear q1 q2 q3 q4 q5
  go_wp2
  refine bodyPost_ret (res_c rfl _ _ (w.heap.size + 1 + 1) 0 0 false rfl (Q4.out.store3 _ _ _)) rfl ⟨rfl, ?_⟩
  exact below_store3 Q1.out (by omega) _ _ _

set_option maxHeartbeats 1000000 in
set_option maxRecDepth 100000 in
theorem refTo_no (W H T E r c x y : Int) (O p : Bool) (h : ¬ Ok W H T E) (w : World) :
    Calls Try.prog 20 #[.agg #[.int .i64 r, .int .i64 c, .bool p], .int .i64 x, .int .i64 y, .agg #[.int .i64 W, .int .i64 H, .int .i64 T, .int .i64 E, .bool O]] w
      fun e w' => e = .returned (.agg #[.int .i64 0, .int .i64 0, .bool false]) ∧ Below w.heap.size w w' := by
  have CK := Lib.hid (fun w => refCheck_no W H T E O h w)
  have HK := Lib.hid (call_mem w r c W H T E O p)
  clear h
  go_enter Try.func20, Try.ntmps20
  go_wp2_with fail
  refine (CK.out _).mono ?_
  rintro e w1 ⟨rfl, b1⟩
  obtain ⟨q1, q2, q3, q4, q5⟩ := HK.out _ b1
  clear b1 CK HK
  have r0 := q4.z 0
  have r1 := q4.z 1
  have r2 := q4.z 2
  have y0 := q4.c0
  have y1 := q4.c1
  have y2 := q4.c2
  have Q1 := Lib.hid q1
  have Q4 := Lib.hid q4
  clear q1 q2 q3 q4 q5
  go_wp2
  refine bodyPost_ret (res_c rfl _ _ (w.heap.size + 1 + 1) 0 0 false rfl (Q4.out.store3 _ _ _)) rfl ⟨rfl, ?_⟩
  exact below_store3 Q1.out (by omega) _ _ _

set_option maxHeartbeats 2000000 in
set_option maxRecDepth 100000 in
theorem refFeed_ok (W H T E r c : Int) (O p : Bool) (h : Ok W H T E) (w : World) :
    Calls Try.prog 23 #[.agg #[.int .i64 r, .int .i64 c, .bool p], .agg #[.int .i64 W, .int .i64 H, .int .i64 T, .int .i64 E, .bool O]] w
      fun e w' => e = .returned (.tuple #[.agg #[.int .i64 (feedRow H E (lim r 0 (H - 1))), .int .i64 (lim c 0 (W - 1)), .bool false], .int .i64 (if lim r 0 (H - 1) = E - 1 then 1 else 0)]) ∧ Below w.heap.size w w' := by
  have CK := Lib.hid (fun w => refCheck_yes W H T E O h w)
  have CS := Lib.hid (fun w => refStart_any W H T E r c O p h w)
  obtain ⟨a1, a2, a3, a4, a5, a6, a7⟩ := h
  have d1 := lim_ge r 0 (H - 1)
  have d2 := lim_le r 0 (H - 1) (by omega)
  generalize lim r 0 (H - 1) = r' at CS d1 d2 ⊢
  generalize lim c 0 (W - 1) = c' at CS ⊢
  obtain ⟨R, hR⟩ : ∃ R, feedRow H E r' = R := ⟨_, rfl⟩
  obtain ⟨N, hN⟩ : ∃ N, (if r' = E - 1 then (1 : Int) else 0) = N := ⟨_, rfl⟩
  rw [hR, hN]
  have HR := Lib.hid hR
  have HN := Lib.hid hN
  clear hR hN
  have HK := Lib.hid (call_mem w r c W H T E O p)
  go_enter Try.func23, Try.ntmps23
  go_wp2_with fail
  refine (CK.out _).mono ?_
  rintro e w1 ⟨rfl, b1⟩
  obtain ⟨q1, q2, q3, q4, q5⟩ := HK.out _ b1
  have u0 := q2.c0
  have u1 := q2.c1
  have u2 := q2.c2
  have m0 := q3.c0
  have m1 := q3.c1
  have m2 := q3.c2
  have m3 := q3.c3
  have m4 := q3.c4
  have Q := Lib.hid (And.intro q1 (And.intro q2 (And.intro q3 q4)))
  clear b1 CK HK q1 q2 q3 q4 q5
  go_wp2_with fail
  clear u0 u1 u2 m0 m1 m2 m3 m4
  refine (CS.out _).mono ?_
  rintro e w2 ⟨rfl, b2⟩
  have q0 := below_step Q.out.1 b2
  have q3 := Q.out.2.2.1.below b2
  have q4 := Q.out.2.2.2.below b2
  have l3 := q3.lt
  have l4 := q4.lt
  have n3 : w2.heap.size ≠ w.heap.size + 1 := by omega
  have n4 : w2.heap.size ≠ w.heap.size + 1 + 1 := by omega
  have q5 := q3.below (below_alloc w2 (.cells #[.int .i64 r', .int .i64 c', .bool false] 23))
  have m1 := q5.c1
  have m2 := q5.c2
  have m3 := q5.c3
  have T4 := Lib.hid (fun x => q4.below (below_alloc w2 (.cells #[.int .i64 x, .int .i64 c', .bool false] 23)))
  have T0 := Lib.hid (fun x => below_step q0 (below_alloc w2 (.cells #[.int .i64 x, .int .i64 c', .bool false] 23)))
  have r0 := fun x => (T4.out x).z 0
  have r1 := fun x => (T4.out x).z 1
  have r2 := fun x => (T4.out x).z 2
  have y0 := fun x => (T4.out x).c0
  have y1 := fun x => (T4.out x).c1
  have y2 := fun x => (T4.out x).c2
  clear b2 q0 q3 q4 q5 l3 l4 Q CS
  by_cases hA : r' = E - 1
  · have eA : (r' == E - 1) = true := by simp [hA]
    obtain rfl : R = r' := by rw [← HR.out]; unfold feedRow; rw [if_pos hA]
    obtain rfl : N = 1 := by rw [← HN.out, if_pos hA]
    clear hA HR HN
    go_wp2
    refine bodyPost_ret (res_cn rfl _ _ (w.heap.size + 1 + 1) R c' false rfl ((T4.out _).store3 _ _ _)) rfl ⟨rfl, ?_⟩
    exact below_store3 (T0.out _) (by omega) _ _ _
  · have eA : (r' == E - 1) = false := by simp [hA]
    obtain rfl : N = 0 := by rw [← HN.out, if_neg hA]
    by_cases hB : r' < H - 1
    · have hR : r' + 1 = R := by rw [← HR.out]; unfold feedRow; rw [if_neg hA, if_pos hB]
      clear hA HR HN
      go_wp2
      subst hR
      refine bodyPost_ret (res_cn rfl _ _ (w.heap.size + 1 + 1) (r' + 1) c' false rfl ((T4.out _).store3 _ _ _)) rfl ⟨rfl, ?_⟩
      exact below_store3 (T0.out _) (by omega) _ _ _
    · obtain rfl : R = r' := by rw [← HR.out]; unfold feedRow; rw [if_neg hA, if_neg hB]
      clear hA HR HN
      go_wp2
      refine bodyPost_ret (res_cn rfl _ _ (w.heap.size + 1 + 1) R c' false rfl ((T4.out _).store3 _ _ _)) rfl ⟨rfl, ?_⟩
      exact below_store3 (T0.out _) (by omega) _ _ _

set_option maxHeartbeats 2000000 in
set_option maxRecDepth 100000 in
theorem refBack_ok (W H T E r c : Int) (O p : Bool) (h : Ok W H T E) (w : World) :
    Calls Try.prog 25 #[.agg #[.int .i64 r, .int .i64 c, .bool p], .agg #[.int .i64 W, .int .i64 H, .int .i64 T, .int .i64 E, .bool O]] w
      fun e w' => e = .returned (.tuple #[.agg #[.int .i64 (backRow T (lim r 0 (H - 1))), .int .i64 (lim c 0 (W - 1)), .bool false], .int .i64 (if lim r 0 (H - 1) = T then 1 else 0)]) ∧ Below w.heap.size w w' := by
  have CK := Lib.hid (fun w => refCheck_yes W H T E O h w)
  have CS := Lib.hid (fun w => refStart_any W H T E r c O p h w)
  obtain ⟨a1, a2, a3, a4, a5, a6, a7⟩ := h
  have d1 := lim_ge r 0 (H - 1)
  have d2 := lim_le r 0 (H - 1) (by omega)
  generalize lim r 0 (H - 1) = r' at CS d1 d2 ⊢
  generalize lim c 0 (W - 1) = c' at CS ⊢
  obtain ⟨R, hR⟩ : ∃ R, backRow T r' = R := ⟨_, rfl⟩
  obtain ⟨N, hN⟩ : ∃ N, (if r' = T then (1 : Int) else 0) = N := ⟨_, rfl⟩
  rw [hR, hN]
  have HR := Lib.hid hR
  have HN := Lib.hid hN
  clear hR hN
  have HK := Lib.hid (call_mem w r c W H T E O p)
  go_enter Try.func25, Try.ntmps25
  go_wp2_with fail
  refine (CK.out _).mono ?_
  rintro e w1 ⟨rfl, b1⟩
  obtain ⟨q1, q2, q3, q4, q5⟩ := HK.out _ b1
  have u0 := q2.c0
  have u1 := q2.c1
  have u2 := q2.c2
  have m0 := q3.c0
  have m1 := q3.c1
  have m2 := q3.c2
  have m3 := q3.c3
  have m4 := q3.c4
  have Q := Lib.hid (And.intro q1 (And.intro q2 (And.intro q3 q4)))
  clear b1 CK HK q1 q2 q3 q4 q5
  go_wp2_with fail
  clear u0 u1 u2 m0 m1 m2 m3 m4
  refine (CS.out _).mono ?_
  rintro e w2 ⟨rfl, b2⟩
  have q0 := below_step Q.out.1 b2
  have q3 := Q.out.2.2.1.below b2
  have q4 := Q.out.2.2.2.below b2
  have l3 := q3.lt
  have l4 := q4.lt
  have n3 : w2.heap.size ≠ w.heap.size + 1 := by omega
  have n4 : w2.heap.size ≠ w.heap.size + 1 + 1 := by omega
  have q5 := q3.below (below_alloc w2 (.cells #[.int .i64 r', .int .i64 c', .bool false] 23))
  have m1 := q5.c1
  have m2 := q5.c2
  have m3 := q5.c3
  have T4 := Lib.hid (fun x => q4.below (below_alloc w2 (.cells #[.int .i64 x, .int .i64 c', .bool false] 23)))
  have T0 := Lib.hid (fun x => below_step q0 (below_alloc w2 (.cells #[.int .i64 x, .int .i64 c', .bool false] 23)))
  have r0 := fun x => (T4.out x).z 0
  have r1 := fun x => (T4.out x).z 1
  have r2 := fun x => (T4.out x).z 2
  have y0 := fun x => (T4.out x).c0
  have y1 := fun x => (T4.out x).c1
  have y2 := fun x => (T4.out x).c2
  clear b2 q0 q3 q4 q5 l3 l4 Q CS
  by_cases hA : r' = T
  · have eA : (r' == T) = true := by simp [hA]
    obtain rfl : R = r' := by rw [← HR.out]; unfold backRow; rw [if_pos hA]
    obtain rfl : N = 1 := by rw [← HN.out, if_pos hA]
    clear hA HR HN
    go_wp2
    refine bodyPost_ret (res_cn rfl _ _ (w.heap.size + 1 + 1) R c' false rfl ((T4.out _).store3 _ _ _)) rfl ⟨rfl, ?_⟩
    exact below_store3 (T0.out _) (by omega) _ _ _
  · have eA : (r' == T) = false := by simp [hA]
    obtain rfl : N = 0 := by rw [← HN.out, if_neg hA]
    by_cases hB : 0 < r'
    · have hR : r' - 1 = R := by rw [← HR.out]; unfold backRow; rw [if_neg hA, if_pos hB]
      clear hA HR HN
      go_wp2
      subst hR
      refine bodyPost_ret (res_cn rfl _ _ (w.heap.size + 1 + 1) (r' - 1) c' false rfl ((T4.out _).store3 _ _ _)) rfl ⟨rfl, ?_⟩
      exact below_store3 (T0.out _) (by omega) _ _ _
    · obtain rfl : R = r' := by rw [← HR.out]; unfold backRow; rw [if_neg hA, if_neg hB]
      clear hA HR HN
      go_wp2
      refine bodyPost_ret (res_cn rfl _ _ (w.heap.size + 1 + 1) R c' false rfl ((T4.out _).store3 _ _ _)) rfl ⟨rfl, ?_⟩
      exact below_store3 (T0.out _) (by omega) _ _ _

end Go.Proofs.Yteenjjiobibokaa
