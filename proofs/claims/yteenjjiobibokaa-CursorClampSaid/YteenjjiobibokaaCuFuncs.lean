/-
  What Clamp, Right and To of cursor return.
-/
import Derived.Test.YteenjjiobibokaaCuMoves
namespace Go.Proofs.Yteenjjiobibokaa
open Go.RowKit Cu

/-- move with a lead that changes nothing that lay there. -/
theorem move_below (W H T E r c R C : Int) (O p P : Bool) (fid : Nat) (cap : Array Value) (h : Ok W H T E) (w : World) (h0 : 0 < w.heap.size) (hcf : ∀ (args : Array Value) (w : World), (callFunc fid args).run Try.prog w = .ok (.enter fid args) w)
    (hL : ∀ U, Below w.heap.size w U → Calls Try.prog fid (#[.agg #[.int .i64 (lim r 0 (H - 1)), .int .i64 (lim c 0 (W - 1)), .bool false], .func (.func 37) #[] #[]] ++ cap) U
      fun e w' => e = .returned (.agg #[.int .i64 R, .int .i64 C, .bool P]) ∧ Below U.heap.size U w') :
    Calls Try.prog 27 #[.agg #[.int .i64 r, .int .i64 c, .bool p], .agg #[.int .i64 W, .int .i64 H, .int .i64 T, .int .i64 E, .bool O], .func (.func fid) #[] cap] w
      fun e w' => e = .returned (.agg #[.int .i64 R, .int .i64 C, .bool P]) ∧ Below w.heap.size w w' := by
  obtain ⟨o, ho⟩ : ∃ o, w.heap[0]? = some o := ⟨_, Array.getElem?_eq_getElem h0⟩
  refine (move_any W H T E r c R C O p P fid cap 0 o h w h0 hcf (fun U hU => (hL U hU).mono ?_)).mono ?_
  · rintro e w' ⟨rfl, hb⟩
    exact ⟨rfl, Bx.of hb, ((hb.block 0 (Nat.lt_of_lt_of_le h0 hU.size)).trans (hU.block 0 h0)).trans ho⟩
  · rintro e w' ⟨rfl, hb, h2⟩
    exact ⟨rfl, hb.whole (h2.trans ho.symm)⟩

set_option maxHeartbeats 1000000 in
set_option maxRecDepth 100000 in
theorem move_no (W H T E r c : Int) (O p : Bool) (f : Value) (h : ¬ Ok W H T E) (w : World) :
    Calls Try.prog 27 #[.agg #[.int .i64 r, .int .i64 c, .bool p], .agg #[.int .i64 W, .int .i64 H, .int .i64 T, .int .i64 E, .bool O], f] w
      fun e w' => e = .returned (.agg #[.int .i64 0, .int .i64 0, .bool false]) ∧ Below w.heap.size w w' := by
  have CK := Lib.hid (fun w => check_no W H T E O h w)
  have HK := Lib.hid (call_mem w r c W H T E O p)
  clear h
  go_enter Try.func27, Try.ntmps27
  go_wp2_with fail
  refine (CK.out _).mono ?_
  rintro e w1 ⟨rfl, b1⟩
  obtain ⟨q1, q2, q3, q4, q5⟩ := HK.out _ b1
  clear b1 CK HK
  have r0 := q4.z 0
  have r1 := q4.z 1
  have r2 := q4.z 2
  have y0 := q4.c0
  have y1 := q4.c1
  have y2 := q4.c2
  have Q1 := Lib.hid q1
  have Q4 := Lib.hid q4
  clear q1 q2 q3 q4 q5
  go_wp2
  refine bodyPost_ret (res_c rfl _ _ (w.heap.size + 1 + 1) 0 0 false rfl (Q4.out.store3 _ _ _)) rfl ⟨rfl, ?_⟩
  exact below_store3 Q1.out (by omega) _ _ _

set_option maxHeartbeats 1000000 in
set_option maxRecDepth 100000 in
theorem clamp_gen (W H T E r c R C : Int) (O p P : Bool) (w : World)
    (hM : ∀ kc kb U, Cr U kc r c p → Bd U kb W H T E O → Calls Try.prog 27 #[.agg #[.int .i64 r, .int .i64 c, .bool p], .agg #[.int .i64 W, .int .i64 H, .int .i64 T, .int .i64 E, .bool O], .func (.func 28) #[] #[.pointer (some ⟨kc, 0, none⟩), .pointer (some ⟨kb, 0, none⟩)]] U
      fun e w' => e = .returned (.agg #[.int .i64 R, .int .i64 C, .bool P]) ∧ Below U.heap.size U w') :
    Calls Try.prog 13 #[.agg #[.int .i64 r, .int .i64 c, .bool p], .agg #[.int .i64 W, .int .i64 H, .int .i64 T, .int .i64 E, .bool O]] w
      fun e w' => e = .returned (.agg #[.int .i64 R, .int .i64 C, .bool P]) ∧ Below w.heap.size w w' := by
  have hmf : ∀ (fn : Fn) (first cap : Array Value) (w : World), (Instr.makeFunc fn first cap).run Try.prog w = .ok (.func fn first cap) w := fun _ _ _ _ => rfl
  have k := call_mem w r c W H T E O p
  obtain ⟨V, hV⟩ : ∃ V, (((w.alloc (.cells #[.int .i64 r, .int .i64 c, .bool p] 23)).alloc (.cells #[.int .i64 W, .int .i64 H, .int .i64 T, .int .i64 E, .bool O] 25)).alloc (.cells #[.int .i64 0, .int .i64 0, .bool false] 23)) = V := ⟨_, rfl⟩
  rw [hV] at k
  have kV := k V (Below.refl _ _)
  have CM := Lib.hid (hM _ _ V kV.2.1 kV.2.2.1)
  have u0 := kV.2.1.c0
  have u1 := kV.2.1.c1
  have u2 := kV.2.1.c2
  have m0 := kV.2.2.1.c0
  have m1 := kV.2.2.1.c1
  have m2 := kV.2.2.1.c2
  have m3 := kV.2.2.1.c3
  have m4 := kV.2.2.1.c4
  have HK := Lib.hid k
  clear k kV hM
  go_enter Try.func13, Try.ntmps13
  go_wp2_with fail
  clear hV u0 u1 u2 m0 m1 m2 m3 m4
  refine CM.out.mono ?_
  rintro e w1 ⟨rfl, b1⟩
  obtain ⟨q1, q2, q3, q4, q5⟩ := HK.out _ b1
  have r0 := q4.z 0
  have r1 := q4.z 1
  have r2 := q4.z 2
  have y0 := q4.c0
  have y1 := q4.c1
  have y2 := q4.c2
  have Q1 := Lib.hid q1
  have Q4 := Lib.hid q4
  clear q1 q2 q3 q4 q5 b1 HK CM
  go_wp2
  refine bodyPost_ret (res_c rfl _ _ (w.heap.size + 1 + 1) R C P rfl (Q4.out.store3 _ _ _)) rfl ⟨rfl, ?_⟩
  exact below_store3 Q1.out (by omega) _ _ _

theorem clamp_ok (W H T E r c : Int) (O p : Bool) (h : Ok W H T E) (w : World) :
    Calls Try.prog 13 #[.agg #[.int .i64 r, .int .i64 c, .bool p], .agg #[.int .i64 W, .int .i64 H, .int .i64 T, .int .i64 E, .bool O]] w
      fun e w' => e = .returned (.agg #[.int .i64 (lim r 0 (H - 1)), .int .i64 (lim c 0 (W - 1)), .bool (p && lim c 0 (W - 1) == W - 1)]) ∧ Below w.heap.size w w' :=
  clamp_gen _ _ _ _ _ _ _ _ _ _ _ w fun kc kb U hc hb => move_below _ _ _ _ _ _ _ _ _ _ _ _ #[.pointer (some ⟨kc, 0, none⟩), .pointer (some ⟨kb, 0, none⟩)] h U (Nat.zero_lt_of_lt hc.lt) enters_clamp fun U' hU => clamp1_any W H T E _ _ r c O p kc kb h U' (hc.below hU) (hb.below hU)
theorem clamp_no (W H T E r c : Int) (O p : Bool) (h : ¬ Ok W H T E) (w : World) :
    Calls Try.prog 13 #[.agg #[.int .i64 r, .int .i64 c, .bool p], .agg #[.int .i64 W, .int .i64 H, .int .i64 T, .int .i64 E, .bool O]] w
      fun e w' => e = .returned (.agg #[.int .i64 0, .int .i64 0, .bool false]) ∧ Below w.heap.size w w' :=
  clamp_gen _ _ _ _ _ _ _ _ _ _ _ w fun _ _ U _ _ => move_no W H T E r c O p _ h U

end Go.Proofs.Yteenjjiobibokaa
