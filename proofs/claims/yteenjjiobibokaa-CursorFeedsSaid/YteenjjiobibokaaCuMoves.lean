/-
  What move returns, for every lead.
-/
import Derived.Test.YteenjjiobibokaaCuMove
namespace Go.Proofs.Yteenjjiobibokaa
open Go.RowKit Cu

/-- The memory of a call with a cursor and bounds that began in w: both, and the place of its result. -/
theorem call_mem (w : World) (r c W H T E : Int) (O p : Bool) (U : World) (h : Below (((w.alloc (.cells #[.int .i64 r, .int .i64 c, .bool p] 23)).alloc (.cells #[.int .i64 W, .int .i64 H, .int .i64 T, .int .i64 E, .bool O] 25)).alloc (.cells #[.int .i64 0, .int .i64 0, .bool false] 23)).heap.size (((w.alloc (.cells #[.int .i64 r, .int .i64 c, .bool p] 23)).alloc (.cells #[.int .i64 W, .int .i64 H, .int .i64 T, .int .i64 E, .bool O] 25)).alloc (.cells #[.int .i64 0, .int .i64 0, .bool false] 23)) U) :
    Below w.heap.size w U ∧ Cr U w.heap.size r c p ∧ Bd U (w.heap.size + 1) W H T E O ∧ Cr U (w.heap.size + 1 + 1) 0 0 false ∧ w.heap.size + 3 ≤ U.heap.size := by
  have b0 : Below w.heap.size w (((w.alloc (.cells #[.int .i64 r, .int .i64 c, .bool p] 23)).alloc (.cells #[.int .i64 W, .int .i64 H, .int .i64 T, .int .i64 E, .bool O] 25)).alloc (.cells #[.int .i64 0, .int .i64 0, .bool false] 23)) := (((Below.refl _ w).alloc (Nat.le_refl _) _).alloc (by simp) _).alloc (by simp; omega) _
  refine ⟨below_step b0 h, ?_, ?_, ?_, ?_⟩
  · exact (((Cr.laid w r c p).below ((Below.refl _ _).alloc (Nat.le_refl _) _)).below ((Below.refl _ _).alloc (Nat.le_refl _) _)).below h
  · have e := Bd.laid (w.alloc (.cells #[.int .i64 r, .int .i64 c, .bool p] 23)) W H T E O
    rw [World.size_alloc] at e
    exact (e.below ((Below.refl _ _).alloc (Nat.le_refl _) _)).below h
  · exact (Cr.put _ (by simp) 0 0 false).below h
  · have := h.size
    simp at this
    omega

set_option maxHeartbeats 4000000 in
set_option maxRecDepth 100000 in
theorem move_any (W H T E r c R C : Int) (O p P : Bool) (fid : Nat) (cap : Array Value) (k : Nat) (o : Obj) (h : Ok W H T E) (w : World) (hk : k < w.heap.size) (hcf : ∀ (args : Array Value) (w : World), (callFunc fid args).run Try.prog w = .ok (.enter fid args) w)
    (hL : ∀ U, Below w.heap.size w U → Calls Try.prog fid (#[.agg #[.int .i64 (lim r 0 (H - 1)), .int .i64 (lim c 0 (W - 1)), .bool false], .func (.func 37) #[] #[]] ++ cap) U
      fun e w' => e = .returned (.agg #[.int .i64 R, .int .i64 C, .bool P]) ∧ Bx k U w' ∧ w'.heap[k]? = some o) :
    Calls Try.prog 27 #[.agg #[.int .i64 r, .int .i64 c, .bool p], .agg #[.int .i64 W, .int .i64 H, .int .i64 T, .int .i64 E, .bool O], .func (.func fid) #[] cap] w
      fun e w' => e = .returned (.agg #[.int .i64 R, .int .i64 C, .bool P]) ∧ Bx k w w' ∧ w'.heap[k]? = some o := by
  have CK := Lib.hid (fun w => check_yes W H T E O h w)
  have CL := Lib.hid (fun n a z W' => lim_any n a z W')
  obtain ⟨a1, a2, a3, a4, a5, a6, a7⟩ := h
  have wH : IntKind.i64.wrap (H - 1) = H - 1 := by rw [IntKind.wrap_i64]; omega
  have wW : IntKind.i64.wrap (W - 1) = W - 1 := by rw [IntKind.wrap_i64]; omega
  have HL := Lib.hid hL
  have HK := Lib.hid (call_mem w r c W H T E O p)
  clear hL
  go_enter Try.func27, Try.ntmps27
  go_wp2_with fail
  refine (CK.out _).mono ?_
  rintro e w1 ⟨rfl, b1⟩
  obtain ⟨q1, q2, q3, q4, q5⟩ := HK.out _ b1
  clear b1 CK HK
  have l2 := q2.lt
  have l3 := q3.lt
  have keep : ∀ {U U' : World}, (U.cell? ⟨w.heap.size, 0, none⟩ = some (.int .i64 r) ∧ U.cell? ⟨w.heap.size, 1, none⟩ = some (.int .i64 c) ∧ U.cell? ⟨w.heap.size + 1, 0, none⟩ = some (.int .i64 W) ∧ U.cell? ⟨w.heap.size + 1, 1, none⟩ = some (.int .i64 H) ∧ Aside (Below w1.heap.size w1 U)) → Below U.heap.size U U' → (U'.cell? ⟨w.heap.size, 0, none⟩ = some (.int .i64 r) ∧ U'.cell? ⟨w.heap.size, 1, none⟩ = some (.int .i64 c) ∧ U'.cell? ⟨w.heap.size + 1, 0, none⟩ = some (.int .i64 W) ∧ U'.cell? ⟨w.heap.size + 1, 1, none⟩ = some (.int .i64 H) ∧ Aside (Below w1.heap.size w1 U')) := fun {U U'} hs hu =>
    ⟨(hu.cell (p := ⟨_, 0, none⟩) (Nat.lt_of_lt_of_le l2 hs.2.2.2.2.out.size)).trans hs.1, (hu.cell (p := ⟨_, 1, none⟩) (Nat.lt_of_lt_of_le l2 hs.2.2.2.2.out.size)).trans hs.2.1, (hu.cell (p := ⟨_, 0, none⟩) (Nat.lt_of_lt_of_le l3 hs.2.2.2.2.out.size)).trans hs.2.2.1, (hu.cell (p := ⟨_, 1, none⟩) (Nat.lt_of_lt_of_le l3 hs.2.2.2.2.out.size)).trans hs.2.2.2.1, below_step hs.2.2.2.2.out hu⟩
  have hS0 : w1.cell? ⟨w.heap.size, 0, none⟩ = some (.int .i64 r) ∧ w1.cell? ⟨w.heap.size, 1, none⟩ = some (.int .i64 c) ∧ w1.cell? ⟨w.heap.size + 1, 0, none⟩ = some (.int .i64 W) ∧ w1.cell? ⟨w.heap.size + 1, 1, none⟩ = some (.int .i64 H) ∧ Aside (Below w1.heap.size w1 w1) := ⟨q2.c0, q2.c1, q3.c0, q3.c1, Below.refl _ _⟩
  have hS := keep hS0 (Below.refl _ _).drew
  have sA : ∀ {U : World} (o : Obj), (U.cell? ⟨w.heap.size, 0, none⟩ = some (.int .i64 r) ∧ U.cell? ⟨w.heap.size, 1, none⟩ = some (.int .i64 c) ∧ U.cell? ⟨w.heap.size + 1, 0, none⟩ = some (.int .i64 W) ∧ U.cell? ⟨w.heap.size + 1, 1, none⟩ = some (.int .i64 H) ∧ Aside (Below w1.heap.size w1 U)) → ((U.alloc o).cell? ⟨w.heap.size, 0, none⟩ = some (.int .i64 r) ∧ (U.alloc o).cell? ⟨w.heap.size, 1, none⟩ = some (.int .i64 c) ∧ (U.alloc o).cell? ⟨w.heap.size + 1, 0, none⟩ = some (.int .i64 W) ∧ (U.alloc o).cell? ⟨w.heap.size + 1, 1, none⟩ = some (.int .i64 H) ∧ Aside (Below w1.heap.size w1 (U.alloc o))) := fun {U} o hs => keep hs ((Below.refl _ _).alloc (Nat.le_refl _) o)
  have sD : ∀ {U : World} (o : Obj), (U.drew.cell? ⟨w.heap.size, 0, none⟩ = some (.int .i64 r) ∧ U.drew.cell? ⟨w.heap.size, 1, none⟩ = some (.int .i64 c) ∧ U.drew.cell? ⟨w.heap.size + 1, 0, none⟩ = some (.int .i64 W) ∧ U.drew.cell? ⟨w.heap.size + 1, 1, none⟩ = some (.int .i64 H) ∧ Aside (Below w1.heap.size w1 U.drew)) → ((U.alloc o).drew.cell? ⟨w.heap.size, 0, none⟩ = some (.int .i64 r) ∧ (U.alloc o).drew.cell? ⟨w.heap.size, 1, none⟩ = some (.int .i64 c) ∧ (U.alloc o).drew.cell? ⟨w.heap.size + 1, 0, none⟩ = some (.int .i64 W) ∧ (U.alloc o).drew.cell? ⟨w.heap.size + 1, 1, none⟩ = some (.int .i64 H) ∧ Aside (Below w1.heap.size w1 (U.alloc o).drew)) := fun {U} o hs => sA (U := U.drew) o hs
  have Q1 := Lib.hid q1
  have Q4 := Lib.hid q4
  have HQ := Lib.hid q5
  clear q1 q2 q3 q4 q5 hS0 l2 l3 keep
  go_wp2_with fail
  go_region_held3 (fun U => U.cell? ⟨w.heap.size, 0, none⟩ = some (.int .i64 r) ∧ U.cell? ⟨w.heap.size, 1, none⟩ = some (.int .i64 c) ∧ U.cell? ⟨w.heap.size + 1, 0, none⟩ = some (.int .i64 W) ∧ U.cell? ⟨w.heap.size + 1, 1, none⟩ = some (.int .i64 H) ∧ Aside (Below w1.heap.size w1 U))
    (first | assumption | (refine sA _ ?_; assumption) | (refine sD _ ?_; assumption))
    (first | (go_at_call 37; refine (CL.out _ _ _ _).mono ?_; rintro e w' ⟨rfl, rfl⟩))
  all_goals
    clear sA sD hS wH wW
    have U1 := Lib.hid (below_step Q1.out ((Below.refl _ w1).alloc (Nat.le_refl _) (.cells #[.int .i64 (lim r 0 (H - 1)), .int .i64 (lim c 0 (W - 1)), .bool false] 23)).drew)
    have U4 := Lib.hid (Q4.out.below ((Below.refl _ w1).alloc (Nat.le_refl _) (.cells #[.int .i64 (lim r 0 (H - 1)), .int .i64 (lim c 0 (W - 1)), .bool false] 23)).drew)
    go_wp2_with fail
    refine (HL.out _ U1.out).mono ?_
    rintro e w2 ⟨rfl, bx, hk2⟩
    have q4 : Cr w2 (w.heap.size + 1 + 1) 0 0 false := (bx.2.2.2.2 _ U4.out.lt (by omega)).trans U4.out
    have r0 := q4.z 0
    have r1 := q4.z 1
    have r2 := q4.z 2
    have y0 := q4.c0
    have y1 := q4.c1
    have y2 := q4.c2
    have B2 := Lib.hid (Bx.pre U1.out bx)
    have Q := Lib.hid q4
    have K2 := Lib.hid hk2
    clear bx q4 hk2 U1 U4
    go_wp2
    refine bodyPost_ret (res_c rfl _ _ (w.heap.size + 1 + 1) R C P rfl (Q.out.store3 _ _ _)) rfl ⟨rfl, ?_, ?_⟩
    · exact B2.out.above3 (by omega) _ _ _
    · have hne : k ≠ w.heap.size + 1 + 1 := by omega
      rw [heap_setCell_other _ _ _ _ hne, heap_setCell_other _ _ _ _ hne, heap_setCell_other _ _ _ _ hne]
      exact K2.out

theorem enters_up : ∀ (args : Array Value) (w : World), (callFunc 38 args).run Try.prog w = .ok (.enter 38 args) w := fun _ _ => by kernel_rfl
theorem enters_right : ∀ (args : Array Value) (w : World), (callFunc 33 args).run Try.prog w = .ok (.enter 33 args) w := fun _ _ => by kernel_rfl
theorem enters_to : ∀ (args : Array Value) (w : World), (callFunc 34 args).run Try.prog w = .ok (.enter 34 args) w := fun _ _ => by kernel_rfl
theorem enters_clamp : ∀ (args : Array Value) (w : World), (callFunc 28 args).run Try.prog w = .ok (.enter 28 args) w := fun _ _ => by kernel_rfl
theorem enters_step : ∀ (args : Array Value) (w : World), (callFunc 40 args).run Try.prog w = .ok (.enter 40 args) w := fun _ _ => by kernel_rfl

end Go.Proofs.Yteenjjiobibokaa
