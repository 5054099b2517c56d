/-
  What step, Feed and Reverse of cursor return.
-/
import Derived.Test.YteenjjiobibokaaCuRight
namespace Go.Proofs.Yteenjjiobibokaa
open Go.RowKit Cu

theorem ret_cn {r c n r' c' n' : Int} {p p' : Bool} (h1 : r = r') (h2 : c = c') (h3 : n = n') (h4 : p = p') : Ending.returned (.tuple #[.agg #[.int .i64 r, .int .i64 c, .bool p], .int .i64 n]) = .returned (.tuple #[.agg #[.int .i64 r', .int .i64 c', .bool p'], .int .i64 n']) := by rw [h1, h2, h3, h4]

set_option maxHeartbeats 2000000 in
set_option maxRecDepth 100000 in
theorem step_gen (W H T E r c n R C S : Int) (O p P : Bool) (w : World)
    (hM : ∀ kf kb ks kp kn U, U.heap[kf]? = some (.cells #[.func (.func 38) #[] #[.pointer (some ⟨kp, 0, none⟩), .pointer (some ⟨kn, 0, none⟩)]] 45) → Bd U kb W H T E O → Bd U kp W H T E O → Nu U kn n → Nu U ks 0 →
      Calls Try.prog 27 #[.agg #[.int .i64 r, .int .i64 c, .bool p], .agg #[.int .i64 W, .int .i64 H, .int .i64 T, .int .i64 E, .bool O], .func (.func 40) #[] #[.pointer (some ⟨kf, 0, none⟩), .pointer (some ⟨kb, 0, none⟩), .pointer (some ⟨ks, 0, none⟩)]] U
      fun e w' => e = .returned (.agg #[.int .i64 R, .int .i64 C, .bool P]) ∧ Bx ks U w' ∧ Nu w' ks S) :
    Calls Try.prog 36 #[.agg #[.int .i64 r, .int .i64 c, .bool p], .int .i64 n, .agg #[.int .i64 W, .int .i64 H, .int .i64 T, .int .i64 E, .bool O]] w
      fun e w' => e = .returned (.tuple #[.agg #[.int .i64 R, .int .i64 C, .bool P], .int .i64 S]) ∧ Below w.heap.size w w' := by
  have hmf : ∀ (fn : Fn) (first cap : Array Value) (w : World), (Instr.makeFunc fn first cap).run Try.prog w = .ok (.func fn first cap) w := fun _ _ _ _ => rfl
  have CU := Lib.hid (fun w => upward_any W H T E n O w)
  have CM := Lib.hid hM
  have k := call_mem w r c W H T E O p
  obtain ⟨V0, hV0⟩ : ∃ V, (((w.alloc (.cells #[.int .i64 r, .int .i64 c, .bool p] 23)).alloc (.cells #[.int .i64 W, .int .i64 H, .int .i64 T, .int .i64 E, .bool O] 25)).alloc (.cells #[.int .i64 0, .int .i64 0, .bool false] 23)) = V := ⟨_, rfl⟩
  rw [hV0] at k
  have hsz : V0.heap.size = w.heap.size + 1 + 1 + 1 := by rw [← hV0]; simp
  obtain ⟨V, hV⟩ : ∃ V, V0.alloc (.cells #[.int .i64 0] 3) = V := ⟨_, rfl⟩
  have kV := k V (by rw [← hV]; exact below_alloc _ _)
  have nV : Nu V (w.heap.size + 1 + 1 + 1) 0 := by rw [← hV]; exact Nu.put _ hsz.symm 0
  have HV := Lib.hid kV
  have NV := Lib.hid nV
  clear k kV nV hM hsz
  subst hV hV0
  go_enter Try.func36, Try.ntmps36
  go_wp2_with fail
  generalize (((w.alloc (.cells #[.int .i64 r, .int .i64 c, .bool p] 23)).alloc (.cells #[.int .i64 W, .int .i64 H, .int .i64 T, .int .i64 E, .bool O] 25)).alloc (.cells #[.int .i64 0, .int .i64 0, .bool false] 23)).alloc (.cells #[.int .i64 0] 3) = V at HV NV ⊢
  refine (CU.out V).mono ?_
  rintro e w1 ⟨kp, kn, rfl, b1, hB, hN, _, _⟩
  clear CU
  have b2 := below_step b1 (below_alloc w1 (.cells #[.func (.func 38) #[] #[.pointer (some ⟨kp, 0, none⟩), .pointer (some ⟨kn, 0, none⟩)]] 45))
  have q0 := below_step HV.out.1 b2
  have q1 := HV.out.2.1.below b2
  have q2 := HV.out.2.2.1.below b2
  have q3 := HV.out.2.2.2.1.below b2
  have q4 := NV.out.below b2
  have q5 := hB.below (below_alloc w1 (.cells #[.func (.func 38) #[] #[.pointer (some ⟨kp, 0, none⟩), .pointer (some ⟨kn, 0, none⟩)]] 45))
  have q6 := hN.below (below_alloc w1 (.cells #[.func (.func 38) #[] #[.pointer (some ⟨kp, 0, none⟩), .pointer (some ⟨kn, 0, none⟩)]] 45))
  have q7 := heap_alloc_new w1 (.cells #[.func (.func 38) #[] #[.pointer (some ⟨kp, 0, none⟩), .pointer (some ⟨kn, 0, none⟩)]] 45)
  have CM2 := Lib.hid (CM.out _ _ _ kp kn _ q7 q2 q5 q6 q4)
  have u0 := q1.c0
  have u1 := q1.c1
  have u2 := q1.c2
  have m0 := q2.c0
  have m1 := q2.c1
  have m2 := q2.c2
  have m3 := q2.c3
  have m4 := q2.c4
  have HQ := Lib.hid (And.intro q0 (And.intro q3 q4))
  clear b1 b2 hB hN q0 q1 q2 q3 q4 q5 q6 q7 CM HV NV
  go_wp2_with fail
  clear u0 u1 u2 m0 m1 m2 m3 m4
  generalize w1.alloc (.cells #[.func (.func 38) #[] #[.pointer (some ⟨kp, 0, none⟩), .pointer (some ⟨kn, 0, none⟩)]] 45) = w2 at HQ CM2 ⊢
  refine CM2.out.mono ?_
  rintro e w3 ⟨rfl, bx, hs⟩
  have l3 := HQ.out.2.1.lt
  have l4 := HQ.out.2.2.lt
  have hlt := HQ.out.1.size
  have q3 : Cr w3 (w.heap.size + 1 + 1) 0 0 false := (bx.2.2.2.2 _ l3 (by omega)).trans HQ.out.2.1
  have q0 : Below w.heap.size w w3 := HQ.out.1.trans (bx.below hlt (by omega))
  have t3 := q3.below (below_alloc w3 (.cells #[.int .i64 R, .int .i64 C, .bool P] 23))
  have t4 := hs.below (below_alloc w3 (.cells #[.int .i64 R, .int .i64 C, .bool P] 23))
  have t0 := below_step q0 (below_alloc w3 (.cells #[.int .i64 R, .int .i64 C, .bool P] 23))
  have r0 := t3.z 0
  have r1 := t3.z 1
  have r2 := t3.z 2
  have y0 := t3.c0
  have y1 := t3.c1
  have y2 := t3.c2
  have s0 := t4.c0
  have T3 := Lib.hid t3
  have T4 := Lib.hid t4
  have T0 := Lib.hid t0
  clear bx hs l3 l4 hlt q3 q0 t3 t4 t0 HQ CM2
  go_wp2_with fail
  go_region
  all_goals
    go_wp2
    refine bodyPost_ret (res_cn rfl _ _ (w.heap.size + 1 + 1) R C P rfl (T3.out.store3 _ _ _)) rfl ⟨rfl, ?_⟩
    exact (below_store3 T0.out (by omega) _ _ _).drew

theorem step_ok (W H T E r c n : Int) (O p : Bool) (h : Ok W H T E) (w : World) :
    Calls Try.prog 36 #[.agg #[.int .i64 r, .int .i64 c, .bool p], .int .i64 n, .agg #[.int .i64 W, .int .i64 H, .int .i64 T, .int .i64 E, .bool O]] w
      fun e w' => e = .returned (.tuple #[.agg #[.int .i64 (upRow H T E (lim r 0 (H - 1)) n), .int .i64 (lim c 0 (W - 1)), .bool false], .int .i64 (scr H T E (lim r 0 (H - 1)) n)]) ∧ Below w.heap.size w w' :=
  step_gen _ _ _ _ _ _ _ _ _ _ _ _ _ w fun kf kb ks kp kn U hf hb hp hn hs =>
    move_any _ _ _ _ _ _ _ _ _ _ _ _ #[.pointer (some ⟨kf, 0, none⟩), .pointer (some ⟨kb, 0, none⟩), .pointer (some ⟨ks, 0, none⟩)] ks _ h U hs.lt enters_step fun U' hU =>
      step1_any W H T E n _ _ O kf kb ks kp kn h (lim_ge _ _ _) (lim_le _ _ _ (by unfold Ok at h; omega)) U' ((hU.block _ (lt_of_block hf)).trans hf) (hb.below hU) (hp.below hU) (hn.below hU) (hs.below hU)
theorem step_no (W H T E r c n : Int) (O p : Bool) (h : ¬ Ok W H T E) (w : World) :
    Calls Try.prog 36 #[.agg #[.int .i64 r, .int .i64 c, .bool p], .int .i64 n, .agg #[.int .i64 W, .int .i64 H, .int .i64 T, .int .i64 E, .bool O]] w
      fun e w' => e = .returned (.tuple #[.agg #[.int .i64 0, .int .i64 0, .bool false], .int .i64 0]) ∧ Below w.heap.size w w' :=
  step_gen _ _ _ _ _ _ _ _ _ _ _ _ _ w fun _ _ _ _ _ U _ _ _ _ hs => (move_no W H T E r c O p _ h U).mono fun _ _ hb => ⟨hb.1, Bx.of hb.2, hs.below hb.2⟩

set_option maxHeartbeats 1000000 in
set_option maxRecDepth 100000 in
theorem feed_gen (W H T E r c R C S : Int) (O p P : Bool) (w : World)
    (hM : ∀ U, Calls Try.prog 36 #[.agg #[.int .i64 r, .int .i64 c, .bool p], .int .i64 (-1), .agg #[.int .i64 W, .int .i64 H, .int .i64 T, .int .i64 E, .bool O]] U
      fun e w' => e = .returned (.tuple #[.agg #[.int .i64 R, .int .i64 C, .bool P], .int .i64 S]) ∧ Below U.heap.size U w') :
    Calls Try.prog 22 #[.agg #[.int .i64 r, .int .i64 c, .bool p], .agg #[.int .i64 W, .int .i64 H, .int .i64 T, .int .i64 E, .bool O]] w
      fun e w' => e = .returned (.tuple #[.agg #[.int .i64 R, .int .i64 C, .bool P], .int .i64 S]) ∧ Below w.heap.size w w' := by
  have CM := Lib.hid hM
  have HK := Lib.hid (call_mem w r c W H T E O p)
  clear hM
  go_enter Try.func22, Try.ntmps22
  go_wp2_with fail
  refine (CM.out _).mono ?_
  rintro e w1 ⟨rfl, b1⟩
  obtain ⟨q1, q2, q3, q4, q5⟩ := HK.out _ b1
  have r0 := q4.z 0
  have r1 := q4.z 1
  have r2 := q4.z 2
  have y0 := q4.c0
  have y1 := q4.c1
  have y2 := q4.c2
  have Q1 := Lib.hid q1
  have Q4 := Lib.hid q4
  clear q1 q2 q3 q4 q5 b1 HK CM
  go_wp2
  refine bodyPost_ret (res_cn rfl _ _ (w.heap.size + 1 + 1) R C P rfl (Q4.out.store3 _ _ _)) rfl ⟨rfl, ?_⟩
  exact below_store3 Q1.out (by omega) _ _ _

set_option maxHeartbeats 1000000 in
set_option maxRecDepth 100000 in
theorem back_gen (W H T E r c R C S : Int) (O p P : Bool) (w : World)
    (hM : ∀ U, Calls Try.prog 36 #[.agg #[.int .i64 r, .int .i64 c, .bool p], .int .i64 1, .agg #[.int .i64 W, .int .i64 H, .int .i64 T, .int .i64 E, .bool O]] U
      fun e w' => e = .returned (.tuple #[.agg #[.int .i64 R, .int .i64 C, .bool P], .int .i64 S]) ∧ Below U.heap.size U w') :
    Calls Try.prog 24 #[.agg #[.int .i64 r, .int .i64 c, .bool p], .agg #[.int .i64 W, .int .i64 H, .int .i64 T, .int .i64 E, .bool O]] w
      fun e w' => e = .returned (.tuple #[.agg #[.int .i64 R, .int .i64 C, .bool P], .int .i64 S]) ∧ Below w.heap.size w w' := by
  have CM := Lib.hid hM
  have HK := Lib.hid (call_mem w r c W H T E O p)
  clear hM
  go_enter Try.func24, Try.ntmps24
  go_wp2_with fail
  refine (CM.out _).mono ?_
  rintro e w1 ⟨rfl, b1⟩
  obtain ⟨q1, q2, q3, q4, q5⟩ := HK.out _ b1
  have r0 := q4.z 0
  have r1 := q4.z 1
  have r2 := q4.z 2
  have y0 := q4.c0
  have y1 := q4.c1
  have y2 := q4.c2
  have Q1 := Lib.hid q1
  have Q4 := Lib.hid q4
  clear q1 q2 q3 q4 q5 b1 HK CM
  go_wp2
  refine bodyPost_ret (res_cn rfl _ _ (w.heap.size + 1 + 1) R C P rfl (Q4.out.store3 _ _ _)) rfl ⟨rfl, ?_⟩
  exact below_store3 Q1.out (by omega) _ _ _

theorem feed_ok (W H T E r c : Int) (O p : Bool) (h : Ok W H T E) (w : World) :
    Calls Try.prog 22 #[.agg #[.int .i64 r, .int .i64 c, .bool p], .agg #[.int .i64 W, .int .i64 H, .int .i64 T, .int .i64 E, .bool O]] w
      fun e w' => e = .returned (.tuple #[.agg #[.int .i64 (feedRow H E (lim r 0 (H - 1))), .int .i64 (lim c 0 (W - 1)), .bool false], .int .i64 (if lim r 0 (H - 1) = E - 1 then 1 else 0)]) ∧ Below w.heap.size w w' := by
  have e := feed_up h (lim r 0 (H - 1)) (lim_ge _ _ _) (lim_le _ _ _ (by unfold Ok at h; omega))
  rw [← e.1, ← e.2]
  exact feed_gen _ _ _ _ _ _ _ _ _ _ _ _ w fun U => step_ok W H T E r c (-1) O p h U
theorem feed_no (W H T E r c : Int) (O p : Bool) (h : ¬ Ok W H T E) (w : World) :
    Calls Try.prog 22 #[.agg #[.int .i64 r, .int .i64 c, .bool p], .agg #[.int .i64 W, .int .i64 H, .int .i64 T, .int .i64 E, .bool O]] w
      fun e w' => e = .returned (.tuple #[.agg #[.int .i64 0, .int .i64 0, .bool false], .int .i64 0]) ∧ Below w.heap.size w w' :=
  feed_gen _ _ _ _ _ _ _ _ _ _ _ _ w fun U => step_no W H T E r c (-1) O p h U
theorem back_ok (W H T E r c : Int) (O p : Bool) (h : Ok W H T E) (w : World) :
    Calls Try.prog 24 #[.agg #[.int .i64 r, .int .i64 c, .bool p], .agg #[.int .i64 W, .int .i64 H, .int .i64 T, .int .i64 E, .bool O]] w
      fun e w' => e = .returned (.tuple #[.agg #[.int .i64 (backRow T (lim r 0 (H - 1))), .int .i64 (lim c 0 (W - 1)), .bool false], .int .i64 (if lim r 0 (H - 1) = T then 1 else 0)]) ∧ Below w.heap.size w w' := by
  have e := back_up h (lim r 0 (H - 1)) (lim_ge _ _ _) (lim_le _ _ _ (by unfold Ok at h; omega))
  rw [← e.1, ← e.2]
  exact back_gen _ _ _ _ _ _ _ _ _ _ _ _ w fun U => step_ok W H T E r c 1 O p h U
theorem back_no (W H T E r c : Int) (O p : Bool) (h : ¬ Ok W H T E) (w : World) :
    Calls Try.prog 24 #[.agg #[.int .i64 r, .int .i64 c, .bool p], .agg #[.int .i64 W, .int .i64 H, .int .i64 T, .int .i64 E, .bool O]] w
      fun e w' => e = .returned (.tuple #[.agg #[.int .i64 0, .int .i64 0, .bool false], .int .i64 0]) ∧ Below w.heap.size w w' :=
  back_gen _ _ _ _ _ _ _ _ _ _ _ _ w fun U => step_no W H T E r c 1 O p h U

end Go.Proofs.Yteenjjiobibokaa
