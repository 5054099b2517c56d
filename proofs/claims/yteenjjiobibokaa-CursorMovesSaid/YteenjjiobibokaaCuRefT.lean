/-
  What the document's own To returns.
-/
import Derived.Test.YteenjjiobibokaaCuRefC
namespace Go.Proofs.Yteenjjiobibokaa
open Go.RowKit Cu

set_option maxHeartbeats 2000000 in
set_option maxRecDepth 100000 in
theorem refTo_ok (W H T E r c x y : Int) (O p : Bool) (h : Ok W H T E) (w : World) :
    Calls Try.prog 20 #[.agg #[.int .i64 r, .int .i64 c, .bool p], .int .i64 x, .int .i64 y, .agg #[.int .i64 W, .int .i64 H, .int .i64 T, .int .i64 E, .bool O]] w
      fun e w' => e = .returned (.agg #[.int .i64 (toRow H T E O x), .int .i64 (toCol W y), .bool false]) ∧ Below w.heap.size w w' := by
  have CK := Lib.hid (fun w => refCheck_yes W H T E O h w)
  have e1 := toRow_far h x
  have e2 := toRow_far2 h x
  have e3 := toCol_far h y
  obtain ⟨a1, a2, a3, a4, a5, a6, a7⟩ := h
  have f1 := lim_ge x 1 1000
  have f2 := lim_le x 1 1000 (by omega)
  have f3 := lim_ge y 1 1000
  have f4 := lim_le y 1 1000 (by omega)
  have C1 := Lib.hid (fun W' => refLim_any x 1 1000 (by omega) W')
  have C2 := Lib.hid (fun W' => refLim_any y 1 1000 (by omega) W')
  have C3 := Lib.hid (fun W' => refLim_any (lim x 1 1000 - 1) 0 (H - 1) (by omega) W')
  have C4 := Lib.hid (fun W' => refLim_any (lim y 1 1000 - 1) 0 (W - 1) (by omega) W')
  have C5 := Lib.hid (fun W' => refLim_any (T + (lim x 1 1000 - 1)) T (E - 1) (by omega) W')
  rw [e1] at C3
  rw [e3] at C4
  rw [e2] at C5
  clear e1 e2 e3
  obtain ⟨R, hR⟩ : ∃ R, toRow H T E O x = R := ⟨_, rfl⟩
  rw [hR]
  have HR := Lib.hid hR
  clear hR
  generalize lim x 1 1000 = dx at C1 C3 C5 f1 f2
  generalize lim y 1 1000 = dy at C2 C4 f3 f4
  obtain ⟨R0, hR0⟩ : ∃ R, toRow H T E false x = R := ⟨_, rfl⟩
  obtain ⟨R1, hR1⟩ : ∃ R, toRow H T E true x = R := ⟨_, rfl⟩
  rw [hR0] at C3
  rw [hR1] at C5
  have H0 := Lib.hid hR0
  have H1 := Lib.hid hR1
  clear hR0 hR1
  generalize toCol W y = Y at C4 ⊢
  have wH : IntKind.i64.wrap (H - 1) = H - 1 := by rw [IntKind.wrap_i64]; omega
  have wW : IntKind.i64.wrap (W - 1) = W - 1 := by rw [IntKind.wrap_i64]; omega
  have HK := Lib.hid (call_mem w r c W H T E O p)
  go_enter Try.func20, Try.ntmps20
  go_wp2_with fail
  refine (CK.out _).mono ?_
  rintro e w1 ⟨rfl, b1⟩
  obtain ⟨q1, q2, q3, q4, q5⟩ := HK.out _ b1
  have K0 := Lib.hid (And.intro q1 (And.intro q3 q4))
  have g7 : w.heap.size ≤ w1.heap.size := by omega
  have n4 : w1.heap.size ≠ w.heap.size + 1 + 1 := by omega
  clear b1 CK HK q1 q2 q3 q4 q5
  go_wp2_with fail
  refine (C1.out _).mono ?_
  rintro e w2 ⟨rfl, rfl⟩
  go_wp2_with fail
  refine (C2.out _).mono ?_
  rintro e w2 ⟨rfl, rfl⟩
  go_wp2_with fail
  have hS : w1.drew.cell? ⟨w.heap.size + 1, 0, none⟩ = some (.int .i64 W) ∧ w1.drew.cell? ⟨w.heap.size + 1, 1, none⟩ = some (.int .i64 H) ∧ Aside (w.heap.size + 1 < w1.drew.heap.size) := ⟨K0.out.2.1.c0, K0.out.2.1.c1, K0.out.2.1.lt⟩
  have sA : ∀ {U : World} (o : Obj), (U.cell? ⟨w.heap.size + 1, 0, none⟩ = some (.int .i64 W) ∧ U.cell? ⟨w.heap.size + 1, 1, none⟩ = some (.int .i64 H) ∧ Aside (w.heap.size + 1 < U.heap.size)) → ((U.alloc o).cell? ⟨w.heap.size + 1, 0, none⟩ = some (.int .i64 W) ∧ (U.alloc o).cell? ⟨w.heap.size + 1, 1, none⟩ = some (.int .i64 H) ∧ Aside (w.heap.size + 1 < (U.alloc o).heap.size)) := fun {U} o hs => ⟨(World.cell?_alloc_lt U o ⟨_, 0, none⟩ hs.2.2.out).trans hs.1, (World.cell?_alloc_lt U o ⟨_, 1, none⟩ hs.2.2.out).trans hs.2.1, Nat.lt_of_lt_of_le hs.2.2.out (below_alloc U o).size⟩
  have sD : ∀ {U : World} (o : Obj), (U.drew.cell? ⟨w.heap.size + 1, 0, none⟩ = some (.int .i64 W) ∧ U.drew.cell? ⟨w.heap.size + 1, 1, none⟩ = some (.int .i64 H) ∧ Aside (w.heap.size + 1 < U.drew.heap.size)) → ((U.alloc o).drew.cell? ⟨w.heap.size + 1, 0, none⟩ = some (.int .i64 W) ∧ (U.alloc o).drew.cell? ⟨w.heap.size + 1, 1, none⟩ = some (.int .i64 H) ∧ Aside (w.heap.size + 1 < (U.alloc o).drew.heap.size)) := fun {U} o hs => sA (U := U.drew) o hs
  go_region_held3 (fun U => U.cell? ⟨w.heap.size + 1, 0, none⟩ = some (.int .i64 W) ∧ U.cell? ⟨w.heap.size + 1, 1, none⟩ = some (.int .i64 H) ∧ Aside (w.heap.size + 1 < U.heap.size))
    (first | assumption | (refine sA _ ?_; assumption) | (refine sD _ ?_; assumption))
    (first
    | (go_at_call 32; (with_reducible refine (C3.out _).mono ?_); rintro e w4 ⟨rfl, rfl⟩)
    | (go_at_call 32; (with_reducible refine (C4.out _).mono ?_); rintro e w4 ⟨rfl, rfl⟩))
  all_goals
    clear hS sA sD
    have K : Hid (Below w.heap.size w (w1.alloc (.cells #[.int .i64 R0, .int .i64 Y, .bool false] 23)).drew ∧ Bd (w1.alloc (.cells #[.int .i64 R0, .int .i64 Y, .bool false] 23)).drew (w.heap.size + 1) W H T E O ∧ Cr (w1.alloc (.cells #[.int .i64 R0, .int .i64 Y, .bool false] 23)).drew (w.heap.size + 1 + 1) 0 0 false ∧ Cr (w1.alloc (.cells #[.int .i64 R0, .int .i64 Y, .bool false] 23)).drew w1.heap.size R0 Y false) :=
      Lib.hid ⟨(below_step K0.out.1 (below_alloc w1 _)).drew, K0.out.2.1.below (below_alloc w1 _).drew, K0.out.2.2.below (below_alloc w1 _).drew, Cr.laid w1 R0 Y false⟩
    generalize (w1.alloc (.cells #[.int .i64 R0, .int .i64 Y, .bool false] 23)).drew = w3 at K ⊢
    generalize w1.heap.size = k7 at K n4 g7 ⊢
    clear K0
    have m2 := K.out.2.1.c2
    have m3 := K.out.2.1.c3
    have m4 := K.out.2.1.c4
    have v0 := K.out.2.2.2.c0
    have v1 := K.out.2.2.2.c1
    have v2 := K.out.2.2.2.c2
    have z0 := K.out.2.2.2.z 0
    have r0 := K.out.2.2.1.z 0
    have r1 := K.out.2.2.1.z 1
    have r2 := K.out.2.2.1.z 2
    have y0 := K.out.2.2.1.c0
    have y1 := K.out.2.2.1.c1
    have y2 := K.out.2.2.1.c2
    cases O with
    | true =>
      obtain rfl : R = R1 := by rw [← HR.out, H1.out]
      go_wp2_with fail
      refine (C5.out _).mono ?_
      rintro e w4 ⟨rfl, rfl⟩
      have T4 := Lib.hid (K.out.2.2.1.other (o := 0) (Ne.symm n4) (.int .i64 R))
      have r0 := T4.out.z 0
      have r1 := T4.out.z 1
      have r2 := T4.out.z 2
      have y0 := T4.out.c0
      have y1 := T4.out.c1
      have y2 := T4.out.c2
      go_wp2
      refine bodyPost_ret (res_c rfl _ _ (w.heap.size + 1 + 1) R Y false rfl (T4.out.store3 _ _ _)) rfl ⟨rfl, ?_⟩
      exact below_store3 (K.out.1.setCell (p := ⟨k7, 0, none⟩) g7 _) (by omega) _ _ _
    | false =>
      obtain rfl : R = R0 := by rw [← HR.out, H0.out]
      go_wp2
      refine bodyPost_ret (res_c rfl _ _ (w.heap.size + 1 + 1) R Y false rfl (K.out.2.2.1.store3 _ _ _)) rfl ⟨rfl, ?_⟩
      exact below_store3 K.out.1 (by omega) _ _ _

end Go.Proofs.Yteenjjiobibokaa
