/-
  What Right and To of cursor return.
-/
import Derived.Test.YteenjjiobibokaaCuFuncs
namespace Go.Proofs.Yteenjjiobibokaa
open Go.RowKit Cu

theorem Nu.put (w : World) {k : Nat} (hk : k = w.heap.size) (n : Int) : Nu (w.alloc (.cells #[.int .i64 n] 3)) k n := by rw [hk]; exact Nu.laid w n
theorem Bd.put (w : World) {k : Nat} (hk : k = w.heap.size) (W H T E : Int) (O : Bool) : Bd (w.alloc (.cells #[.int .i64 W, .int .i64 H, .int .i64 T, .int .i64 E, .bool O] 25)) k W H T E O := by rw [hk]; exact Bd.laid w W H T E O
theorem below_alloc (w : World) (o : Obj) : Below w.heap.size w (w.alloc o) := (Below.refl _ _).alloc (Nat.le_refl _) o

/-- The memory of a call with a cursor, a number and bounds. -/
theorem mem4 (w V : World) (r c n W H T E : Int) (O p : Bool) (hV : ((((w.alloc (.cells #[.int .i64 r, .int .i64 c, .bool p] 23)).alloc (.cells #[.int .i64 n] 3)).alloc (.cells #[.int .i64 W, .int .i64 H, .int .i64 T, .int .i64 E, .bool O] 25)).alloc (.cells #[.int .i64 0, .int .i64 0, .bool false] 23)) = V) :
    Below w.heap.size w V ∧ Cr V w.heap.size r c p ∧ Nu V (w.heap.size + 1) n ∧ Bd V (w.heap.size + 1 + 1) W H T E O ∧ Cr V (w.heap.size + 1 + 1 + 1) 0 0 false := by
  subst hV
  exact ⟨below_step (below_step (below_step (below_alloc _ _) (below_alloc _ _)) (below_alloc _ _)) (below_alloc _ _),
    (((Cr.laid w r c p).below (below_alloc _ _)).below (below_alloc _ _)).below (below_alloc _ _),
    ((Nu.put _ (by simp) n).below (below_alloc _ _)).below (below_alloc _ _),
    (Bd.put _ (by simp) W H T E O).below (below_alloc _ _), Cr.put _ (by simp) 0 0 false⟩
/-- The memory of a call with a cursor, two numbers and bounds. -/
theorem mem5 (w V : World) (r c x y W H T E : Int) (O p : Bool) (hV : (((((w.alloc (.cells #[.int .i64 r, .int .i64 c, .bool p] 23)).alloc (.cells #[.int .i64 x] 3)).alloc (.cells #[.int .i64 y] 3)).alloc (.cells #[.int .i64 W, .int .i64 H, .int .i64 T, .int .i64 E, .bool O] 25)).alloc (.cells #[.int .i64 0, .int .i64 0, .bool false] 23)) = V) :
    Below w.heap.size w V ∧ Cr V w.heap.size r c p ∧ Nu V (w.heap.size + 1) x ∧ Nu V (w.heap.size + 1 + 1) y ∧ Bd V (w.heap.size + 1 + 1 + 1) W H T E O ∧ Cr V (w.heap.size + 1 + 1 + 1 + 1) 0 0 false := by
  subst hV
  exact ⟨below_step (below_step (below_step (below_step (below_alloc _ _) (below_alloc _ _)) (below_alloc _ _)) (below_alloc _ _)) (below_alloc _ _),
    ((((Cr.laid w r c p).below (below_alloc _ _)).below (below_alloc _ _)).below (below_alloc _ _)).below (below_alloc _ _),
    (((Nu.put _ (by simp) x).below (below_alloc _ _)).below (below_alloc _ _)).below (below_alloc _ _),
    ((Nu.put _ (by simp) y).below (below_alloc _ _)).below (below_alloc _ _),
    (Bd.put _ (by simp) W H T E O).below (below_alloc _ _), Cr.put _ (by simp) 0 0 false⟩

set_option maxHeartbeats 1000000 in
set_option maxRecDepth 100000 in
theorem right_gen (W H T E r c n R C : Int) (O p P : Bool) (w : World)
    (hM : ∀ kn kb U, Nu U kn n → Bd U kb W H T E O → Calls Try.prog 27 #[.agg #[.int .i64 r, .int .i64 c, .bool p], .agg #[.int .i64 W, .int .i64 H, .int .i64 T, .int .i64 E, .bool O], .func (.func 33) #[] #[.pointer (some ⟨kn, 0, none⟩), .pointer (some ⟨kb, 0, none⟩)]] U
      fun e w' => e = .returned (.agg #[.int .i64 R, .int .i64 C, .bool P]) ∧ Below U.heap.size U w') :
    Calls Try.prog 17 #[.agg #[.int .i64 r, .int .i64 c, .bool p], .int .i64 n, .agg #[.int .i64 W, .int .i64 H, .int .i64 T, .int .i64 E, .bool O]] w
      fun e w' => e = .returned (.agg #[.int .i64 R, .int .i64 C, .bool P]) ∧ Below w.heap.size w w' := by
  have hmf : ∀ (fn : Fn) (first cap : Array Value) (w : World), (Instr.makeFunc fn first cap).run Try.prog w = .ok (.func fn first cap) w := fun _ _ _ _ => rfl
  obtain ⟨V, hV⟩ : ∃ V, ((((w.alloc (.cells #[.int .i64 r, .int .i64 c, .bool p] 23)).alloc (.cells #[.int .i64 n] 3)).alloc (.cells #[.int .i64 W, .int .i64 H, .int .i64 T, .int .i64 E, .bool O] 25)).alloc (.cells #[.int .i64 0, .int .i64 0, .bool false] 23)) = V := ⟨_, rfl⟩
  have k := mem4 w V r c n W H T E O p hV
  have CM := Lib.hid (hM _ _ V k.2.2.1 k.2.2.2.1)
  have u0 := k.2.1.c0
  have u1 := k.2.1.c1
  have u2 := k.2.1.c2
  have m0 := k.2.2.2.1.c0
  have m1 := k.2.2.2.1.c1
  have m2 := k.2.2.2.1.c2
  have m3 := k.2.2.2.1.c3
  have m4 := k.2.2.2.1.c4
  have HK := Lib.hid (fun U (h : Below V.heap.size V U) => And.intro (below_step k.1 h) (k.2.2.2.2.below h))
  clear k hM
  go_enter Try.func17, Try.ntmps17
  go_wp2_with fail
  clear hV u0 u1 u2 m0 m1 m2 m3 m4
  refine CM.out.mono ?_
  rintro e w1 ⟨rfl, b1⟩
  obtain ⟨q1, q4⟩ := HK.out _ b1
  have r0 := q4.z 0
  have r1 := q4.z 1
  have r2 := q4.z 2
  have y0 := q4.c0
  have y1 := q4.c1
  have y2 := q4.c2
  have Q1 := Lib.hid q1
  have Q4 := Lib.hid q4
  clear q1 q4 b1 HK CM
  go_wp2
  refine bodyPost_ret (res_c rfl _ _ (w.heap.size + 1 + 1 + 1) R C P rfl (Q4.out.store3 _ _ _)) rfl ⟨rfl, ?_⟩
  exact below_store3 Q1.out (by omega) _ _ _

theorem right_ok (W H T E r c n : Int) (O p : Bool) (h : Ok W H T E) (w : World) :
    Calls Try.prog 17 #[.agg #[.int .i64 r, .int .i64 c, .bool p], .int .i64 n, .agg #[.int .i64 W, .int .i64 H, .int .i64 T, .int .i64 E, .bool O]] w
      fun e w' => e = .returned (.agg #[.int .i64 (lim r 0 (H - 1)), .int .i64 (riCol W (lim c 0 (W - 1)) n), .bool false]) ∧ Below w.heap.size w w' :=
  right_gen _ _ _ _ _ _ _ _ _ _ _ _ w fun kn kb U hn hb => move_below _ _ _ _ _ _ _ _ _ _ _ _ #[.pointer (some ⟨kn, 0, none⟩), .pointer (some ⟨kb, 0, none⟩)] h U (Nat.zero_lt_of_lt hn.lt) enters_right fun U' hU =>
    right1_any W H T E n _ _ O kn kb h (lim_ge _ _ _) (lim_le _ _ _ (by unfold Ok at h; omega)) U' (hn.below hU) (hb.below hU)
theorem right_no (W H T E r c n : Int) (O p : Bool) (h : ¬ Ok W H T E) (w : World) :
    Calls Try.prog 17 #[.agg #[.int .i64 r, .int .i64 c, .bool p], .int .i64 n, .agg #[.int .i64 W, .int .i64 H, .int .i64 T, .int .i64 E, .bool O]] w
      fun e w' => e = .returned (.agg #[.int .i64 0, .int .i64 0, .bool false]) ∧ Below w.heap.size w w' :=
  right_gen _ _ _ _ _ _ _ _ _ _ _ _ w fun _ _ U _ _ => move_no W H T E r c O p _ h U

set_option maxHeartbeats 1000000 in
set_option maxRecDepth 100000 in
theorem to_gen (W H T E r c x y R C : Int) (O p P : Bool) (w : World)
    (hM : ∀ kb kx ky U, Bd U kb W H T E O → Nu U kx x → Nu U ky y → Calls Try.prog 27 #[.agg #[.int .i64 r, .int .i64 c, .bool p], .agg #[.int .i64 W, .int .i64 H, .int .i64 T, .int .i64 E, .bool O], .func (.func 34) #[] #[.pointer (some ⟨kb, 0, none⟩), .pointer (some ⟨kx, 0, none⟩), .pointer (some ⟨ky, 0, none⟩)]] U
      fun e w' => e = .returned (.agg #[.int .i64 R, .int .i64 C, .bool P]) ∧ Below U.heap.size U w') :
    Calls Try.prog 19 #[.agg #[.int .i64 r, .int .i64 c, .bool p], .int .i64 x, .int .i64 y, .agg #[.int .i64 W, .int .i64 H, .int .i64 T, .int .i64 E, .bool O]] w
      fun e w' => e = .returned (.agg #[.int .i64 R, .int .i64 C, .bool P]) ∧ Below w.heap.size w w' := by
  have hmf : ∀ (fn : Fn) (first cap : Array Value) (w : World), (Instr.makeFunc fn first cap).run Try.prog w = .ok (.func fn first cap) w := fun _ _ _ _ => rfl
  obtain ⟨V, hV⟩ : ∃ V, (((((w.alloc (.cells #[.int .i64 r, .int .i64 c, .bool p] 23)).alloc (.cells #[.int .i64 x] 3)).alloc (.cells #[.int .i64 y] 3)).alloc (.cells #[.int .i64 W, .int .i64 H, .int .i64 T, .int .i64 E, .bool O] 25)).alloc (.cells #[.int .i64 0, .int .i64 0, .bool false] 23)) = V := ⟨_, rfl⟩
  have k := mem5 w V r c x y W H T E O p hV
  have CM := Lib.hid (hM _ _ _ V k.2.2.2.2.1 k.2.2.1 k.2.2.2.1)
  have u0 := k.2.1.c0
  have u1 := k.2.1.c1
  have u2 := k.2.1.c2
  have m0 := k.2.2.2.2.1.c0
  have m1 := k.2.2.2.2.1.c1
  have m2 := k.2.2.2.2.1.c2
  have m3 := k.2.2.2.2.1.c3
  have m4 := k.2.2.2.2.1.c4
  have HK := Lib.hid (fun U (h : Below V.heap.size V U) => And.intro (below_step k.1 h) (k.2.2.2.2.2.below h))
  clear k hM
  go_enter Try.func19, Try.ntmps19
  go_wp2_with fail
  clear hV u0 u1 u2 m0 m1 m2 m3 m4
  refine CM.out.mono ?_
  rintro e w1 ⟨rfl, b1⟩
  obtain ⟨q1, q4⟩ := HK.out _ b1
  have r0 := q4.z 0
  have r1 := q4.z 1
  have r2 := q4.z 2
  have y0 := q4.c0
  have y1 := q4.c1
  have y2 := q4.c2
  have Q1 := Lib.hid q1
  have Q4 := Lib.hid q4
  clear q1 q4 b1 HK CM
  go_wp2
  refine bodyPost_ret (res_c rfl _ _ (w.heap.size + 1 + 1 + 1 + 1) R C P rfl (Q4.out.store3 _ _ _)) rfl ⟨rfl, ?_⟩
  exact below_store3 Q1.out (by omega) _ _ _

theorem to_ok (W H T E r c x y : Int) (O p : Bool) (h : Ok W H T E) (w : World) :
    Calls Try.prog 19 #[.agg #[.int .i64 r, .int .i64 c, .bool p], .int .i64 x, .int .i64 y, .agg #[.int .i64 W, .int .i64 H, .int .i64 T, .int .i64 E, .bool O]] w
      fun e w' => e = .returned (.agg #[.int .i64 (toRow H T E O x), .int .i64 (toCol W y), .bool false]) ∧ Below w.heap.size w w' :=
  to_gen _ _ _ _ _ _ _ _ _ _ _ _ _ w fun kb kx ky U hb hx hy => move_below _ _ _ _ _ _ _ _ _ _ _ _ #[.pointer (some ⟨kb, 0, none⟩), .pointer (some ⟨kx, 0, none⟩), .pointer (some ⟨ky, 0, none⟩)] h U (Nat.zero_lt_of_lt hb.lt) enters_to fun U' hU =>
    to1_any W H T E x y _ _ O kb kx ky h U' (hb.below hU) (hx.below hU) (hy.below hU)
theorem to_no (W H T E r c x y : Int) (O p : Bool) (h : ¬ Ok W H T E) (w : World) :
    Calls Try.prog 19 #[.agg #[.int .i64 r, .int .i64 c, .bool p], .int .i64 x, .int .i64 y, .agg #[.int .i64 W, .int .i64 H, .int .i64 T, .int .i64 E, .bool O]] w
      fun e w' => e = .returned (.agg #[.int .i64 0, .int .i64 0, .bool false]) ∧ Below w.heap.size w w' :=
  to_gen _ _ _ _ _ _ _ _ _ _ _ _ _ w fun _ _ _ U _ _ _ => move_no W H T E r c O p _ h U

end Go.Proofs.Yteenjjiobibokaa
