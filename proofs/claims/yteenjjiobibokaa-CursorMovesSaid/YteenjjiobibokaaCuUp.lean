/-
  What Up of cursor returns.
-/
import Derived.Test.YteenjjiobibokaaCuRight
import Derived.Deep.RegionLaw
namespace Go.Proofs.Yteenjjiobibokaa
open Go.RowKit Cu

set_option maxHeartbeats 2000000 in
set_option maxRecDepth 100000 in
theorem up_gen (W H T E r c n R C : Int) (O p P : Bool) (w : World)
    (hM : ∀ kb kn U, Bd U kb W H T E O → Nu U kn n → Calls Try.prog 27 #[.agg #[.int .i64 r, .int .i64 c, .bool p], .agg #[.int .i64 W, .int .i64 H, .int .i64 T, .int .i64 E, .bool O], .func (.func 38) #[] #[.pointer (some ⟨kb, 0, none⟩), .pointer (some ⟨kn, 0, none⟩)]] U
      fun e w' => e = .returned (.agg #[.int .i64 R, .int .i64 C, .bool P]) ∧ Below U.heap.size U w') :
    Calls Try.prog 15 #[.agg #[.int .i64 r, .int .i64 c, .bool p], .int .i64 n, .agg #[.int .i64 W, .int .i64 H, .int .i64 T, .int .i64 E, .bool O]] w
      fun e w' => e = .returned (.agg #[.int .i64 R, .int .i64 C, .bool P]) ∧ Below w.heap.size w w' := by
  have CU := Lib.hid (fun w => upward_any W H T E n O w)
  have CM := Lib.hid hM
  have k := call_mem w r c W H T E O p
  obtain ⟨V, hV⟩ : ∃ V, (((w.alloc (.cells #[.int .i64 r, .int .i64 c, .bool p] 23)).alloc (.cells #[.int .i64 W, .int .i64 H, .int .i64 T, .int .i64 E, .bool O] 25)).alloc (.cells #[.int .i64 0, .int .i64 0, .bool false] 23)) = V := ⟨_, rfl⟩
  rw [hV] at k
  have kV := k V.drew (Below.refl _ _).drew
  have u0 := kV.2.1.c0
  have u1 := kV.2.1.c1
  have u2 := kV.2.1.c2
  have m0 := kV.2.2.1.c0
  have m1 := kV.2.2.1.c1
  have m2 := kV.2.2.1.c2
  have m3 := kV.2.2.1.c3
  have m4 := kV.2.2.1.c4
  have HK := Lib.hid k
  have BV := Lib.hid (Below.refl V.heap.size V).drew
  clear k kV hM
  go_enter Try.func15, Try.ntmps15
  go_wp2_with fail
  clear hV
  go_region_law (first
    | (go_simp; (with_reducible refine (CU.out V.drew).mono ?_); rintro e w1 ⟨kb, kn, rfl, hb', hB, hN, _, _⟩; have k1 := HK.out w1 (below_step BV.out hb'); have v0 := k1.2.1.c0; have v1 := k1.2.1.c1; have v2 := k1.2.1.c2; have n0 := k1.2.2.1.c0; have n1 := k1.2.2.1.c1; have n2 := k1.2.2.1.c2; have n3 := k1.2.2.1.c3; have n4 := k1.2.2.1.c4; have BW := Lib.hid (below_step BV.out hb'); clear k1)
    | (go_simp; (with_reducible refine (CM.out kb kn w1 hB hN).mono ?_); rintro e w2 ⟨rfl, hb2⟩; have k2 := HK.out w2 (below_step BW.out hb2); have r0 := k2.2.2.2.1.z 0; have r1 := k2.2.2.2.1.z 1; have r2 := k2.2.2.2.1.z 2; have y0 := k2.2.2.2.1.c0; have y1 := k2.2.2.2.1.c1; have y2 := k2.2.2.2.1.c2; have Q1 := Lib.hid k2.1; have Q4 := Lib.hid k2.2.2.2.1; clear k2))
  all_goals
    go_wp2
    refine bodyPost_ret (res_c rfl _ _ (w.heap.size + 1 + 1) R C P rfl (Q4.out.store3 _ _ _)) rfl ⟨rfl, ?_⟩
    exact below_store3 Q1.out (by omega) _ _ _

theorem up_ok (W H T E r c n : Int) (O p : Bool) (h : Ok W H T E) (w : World) :
    Calls Try.prog 15 #[.agg #[.int .i64 r, .int .i64 c, .bool p], .int .i64 n, .agg #[.int .i64 W, .int .i64 H, .int .i64 T, .int .i64 E, .bool O]] w
      fun e w' => e = .returned (.agg #[.int .i64 (upRow H T E (lim r 0 (H - 1)) n), .int .i64 (lim c 0 (W - 1)), .bool false]) ∧ Below w.heap.size w w' :=
  up_gen _ _ _ _ _ _ _ _ _ _ _ _ w fun kb kn U hb hn => move_below _ _ _ _ _ _ _ _ _ _ _ _ #[.pointer (some ⟨kb, 0, none⟩), .pointer (some ⟨kn, 0, none⟩)] h U (Nat.zero_lt_of_lt hn.lt) enters_up fun U' hU =>
    up1_any W H T E n _ _ O kb kn h (lim_ge _ _ _) (lim_le _ _ _ (by unfold Ok at h; omega)) U' (hb.below hU) (hn.below hU)
theorem up_no (W H T E r c n : Int) (O p : Bool) (h : ¬ Ok W H T E) (w : World) :
    Calls Try.prog 15 #[.agg #[.int .i64 r, .int .i64 c, .bool p], .int .i64 n, .agg #[.int .i64 W, .int .i64 H, .int .i64 T, .int .i64 E, .bool O]] w
      fun e w' => e = .returned (.agg #[.int .i64 0, .int .i64 0, .bool false]) ∧ Below w.heap.size w w' :=
  up_gen _ _ _ _ _ _ _ _ _ _ _ _ w fun _ _ U _ _ => move_no W H T E r c O p _ h U

end Go.Proofs.Yteenjjiobibokaa
