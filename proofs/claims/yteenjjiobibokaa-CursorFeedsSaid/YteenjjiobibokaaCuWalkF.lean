/-
  The statement of layer 10 on Feed and Reverse: the walk.
-/
import Derived.Test.YteenjjiobibokaaCuMem
import Derived.Test.YteenjjiobibokaaCuRefC
namespace Go.Proofs.Yteenjjiobibokaa
open Go.RowKit Cu

set_option maxHeartbeats 2000000 in
set_option maxRecDepth 100000 in
theorem feeds_gen (W H T E r c R1 C1 N1 R2 C2 N2 : Int) (O p P1 P2 : Bool) (w : World)
    (h1 : ∀ U, Calls Try.prog 22 #[.agg #[.int .i64 r, .int .i64 c, .bool p], .agg #[.int .i64 W, .int .i64 H, .int .i64 T, .int .i64 E, .bool O]] U fun e w' => e = .returned (.tuple #[.agg #[.int .i64 R1, .int .i64 C1, .bool P1], .int .i64 N1]) ∧ Below U.heap.size U w')
    (h2 : ∀ U, Calls Try.prog 23 #[.agg #[.int .i64 r, .int .i64 c, .bool p], .agg #[.int .i64 W, .int .i64 H, .int .i64 T, .int .i64 E, .bool O]] U fun e w' => e = .returned (.tuple #[.agg #[.int .i64 R1, .int .i64 C1, .bool P1], .int .i64 N1]) ∧ Below U.heap.size U w')
    (h3 : ∀ U, Calls Try.prog 24 #[.agg #[.int .i64 r, .int .i64 c, .bool p], .agg #[.int .i64 W, .int .i64 H, .int .i64 T, .int .i64 E, .bool O]] U fun e w' => e = .returned (.tuple #[.agg #[.int .i64 R2, .int .i64 C2, .bool P2], .int .i64 N2]) ∧ Below U.heap.size U w')
    (h4 : ∀ U, Calls Try.prog 25 #[.agg #[.int .i64 r, .int .i64 c, .bool p], .agg #[.int .i64 W, .int .i64 H, .int .i64 T, .int .i64 E, .bool O]] U fun e w' => e = .returned (.tuple #[.agg #[.int .i64 R2, .int .i64 C2, .bool P2], .int .i64 N2]) ∧ Below U.heap.size U w')
    : Calls Try.prog 4 #[.agg #[.int .i64 r, .int .i64 c, .bool p], .agg #[.int .i64 W, .int .i64 H, .int .i64 T, .int .i64 E, .bool O]] w fun e w' => e = .returned (.bool true) ∧ Below w.heap.size w w' := by
  have eq1 := Try.stoodInHeld23
  have eq2 := Try.eqGuardType23
  have G1 := Lib.hid h1
  have G2 := Lib.hid h2
  have G3 := Lib.hid h3
  have G4 := Lib.hid h4
  have K0 := Lib.hid (Me.start w r c W H T E O p _ (Below.refl _ _))
  clear h1 h2 h3 h4
  go_enter Try.func4, Try.ntmps4
  go_wp2_with fail
  refine (G1.out _).mono ?_
  rintro e w1 ⟨rfl, b1⟩
  have K1 := Lib.hid ((K0.out.below b1).more R1 C1 P1)
  clear b1 G1 K0
  have u0 := K1.out.2.1.c0
  have u1 := K1.out.2.1.c1
  have u2 := K1.out.2.1.c2
  have m0 := K1.out.2.2.1.c0
  have m1 := K1.out.2.2.1.c1
  have m2 := K1.out.2.2.1.c2
  have m3 := K1.out.2.2.1.c3
  have m4 := K1.out.2.2.1.c4
  go_wp2_with fail
  clear u0 u1 u2 m0 m1 m2 m3 m4
  generalize w1.alloc (.cells #[.int .i64 R1, .int .i64 C1, .bool P1] 23) = y1 at K1 ⊢
  generalize w1.heap.size = k1 at K1 ⊢
  refine (G2.out _).mono ?_
  rintro e w2 ⟨rfl, b2⟩
  have K2 := Lib.hid ((K1.out.below b2).more R1 C1 P1)
  clear b2 G2 K1
  have u0 := K2.out.2.1.c0
  have u1 := K2.out.2.1.c1
  have u2 := K2.out.2.1.c2
  have m0 := K2.out.2.2.1.c0
  have m1 := K2.out.2.2.1.c1
  have m2 := K2.out.2.2.1.c2
  have m3 := K2.out.2.2.1.c3
  have m4 := K2.out.2.2.1.c4
  go_wp2_with fail
  clear u0 u1 u2 m0 m1 m2 m3 m4
  generalize w2.alloc (.cells #[.int .i64 R1, .int .i64 C1, .bool P1] 23) = y2 at K2 ⊢
  generalize w2.heap.size = k2 at K2 ⊢
  refine (G3.out _).mono ?_
  rintro e w3 ⟨rfl, b3⟩
  have K3 := Lib.hid ((K2.out.below b3).more R2 C2 P2)
  clear b3 G3 K2
  have u0 := K3.out.2.1.c0
  have u1 := K3.out.2.1.c1
  have u2 := K3.out.2.1.c2
  have m0 := K3.out.2.2.1.c0
  have m1 := K3.out.2.2.1.c1
  have m2 := K3.out.2.2.1.c2
  have m3 := K3.out.2.2.1.c3
  have m4 := K3.out.2.2.1.c4
  go_wp2_with fail
  clear u0 u1 u2 m0 m1 m2 m3 m4
  generalize w3.alloc (.cells #[.int .i64 R2, .int .i64 C2, .bool P2] 23) = y3 at K3 ⊢
  generalize w3.heap.size = k3 at K3 ⊢
  refine (G4.out _).mono ?_
  rintro e w4 ⟨rfl, b4⟩
  have K4 := Lib.hid ((K3.out.below b4).more R2 C2 P2)
  clear b4 G4 K3
  have x00 := (K4.out.at 0 rfl).c0
  have x01 := (K4.out.at 0 rfl).c1
  have x02 := (K4.out.at 0 rfl).c2
  have x10 := (K4.out.at 1 rfl).c0
  have x11 := (K4.out.at 1 rfl).c1
  have x12 := (K4.out.at 1 rfl).c2
  have x20 := (K4.out.at 2 rfl).c0
  have x21 := (K4.out.at 2 rfl).c1
  have x22 := (K4.out.at 2 rfl).c2
  have x30 := (K4.out.at 3 rfl).c0
  have x31 := (K4.out.at 3 rfl).c1
  have x32 := (K4.out.at 3 rfl).c2
  go_wp2_with fail
  refine (awake_any _).mono ?_
  rintro e w5 ⟨rfl, b5⟩
  have B5 := Lib.hid (K4.out.below b5).1
  clear b5 K4 x00 x01 x02 x10 x11 x12 x20 x21 x22 x30 x31 x32
  go_wp2
  go_ret
  exact ⟨rfl, B5.out⟩

theorem feeds_walk (r c : Int) (p : Bool) (W H T E : Int) (O : Bool) (w : World) :
    Calls Try.prog 4 #[.agg #[.int .i64 r, .int .i64 c, .bool p], .agg #[.int .i64 W, .int .i64 H, .int .i64 T, .int .i64 E, .bool O]] w fun e w' => e = .returned (.bool true) ∧ Below w.heap.size w w' := by
  by_cases h : Ok W H T E
  · exact feeds_gen _ _ _ _ _ _ _ _ _ _ _ _ _ _ _ _ w (feed_ok W H T E r c O p h) (refFeed_ok W H T E r c O p h) (back_ok W H T E r c O p h) (refBack_ok W H T E r c O p h)
  · exact feeds_gen _ _ _ _ _ _ _ _ _ _ _ _ _ _ _ _ w (feed_no W H T E r c O p h) (refFeed_no W H T E r c O p h) (back_no W H T E r c O p h) (refBack_no W H T E r c O p h)

end Go.Proofs.Yteenjjiobibokaa
