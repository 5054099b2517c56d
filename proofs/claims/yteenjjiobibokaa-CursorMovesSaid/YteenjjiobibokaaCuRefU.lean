/-
  What the document's own Right and Up return.
-/
import Derived.Test.YteenjjiobibokaaCuRefC
namespace Go.Proofs.Yteenjjiobibokaa
open Go.RowKit Cu

set_option maxHeartbeats 2000000 in
set_option maxRecDepth 100000 in
theorem refRight_ok (W H T E r c n : Int) (O p : Bool) (h : Ok W H T E) (w : World) :
    Calls Try.prog 18 #[.agg #[.int .i64 r, .int .i64 c, .bool p], .int .i64 n, .agg #[.int .i64 W, .int .i64 H, .int .i64 T, .int .i64 E, .bool O]] w
      fun e w' => e = .returned (.agg #[.int .i64 (lim r 0 (H - 1)), .int .i64 (riCol W (lim c 0 (W - 1)) n), .bool false]) ∧ Below w.heap.size w w' := by
  have CK := Lib.hid (fun w => refCheck_yes W H T E O h w)
  have CS := Lib.hid (fun w => refStart_any W H T E r c O p h w)
  have hfar := ri_far h (lim c 0 (W - 1)) n (lim_ge _ _ _) (lim_le _ _ _ (by unfold Ok at h; omega))
  obtain ⟨a1, a2, a3, a4, a5, a6, a7⟩ := h
  have d1 := lim_ge c 0 (W - 1)
  have d2 := lim_le c 0 (W - 1) (by omega)
  generalize lim r 0 (H - 1) = r' at CS ⊢
  generalize lim c 0 (W - 1) = c' at CS hfar d1 d2 ⊢
  have f1 := lim_ge n (-1000) 1000
  have f2 := lim_le n (-1000) 1000 (by omega)
  have C1 := Lib.hid (fun W' => refLim_any n (-1000) 1000 (by omega) W')
  have C2 := Lib.hid (fun W' => refLim_any (c' + lim n (-1000) 1000) 0 (W - 1) (by omega) W')
  rw [hfar] at C2
  clear hfar
  generalize lim n (-1000) 1000 = d at C1 C2 f1 f2
  generalize riCol W c' n = C at C2 ⊢
  have wW : IntKind.i64.wrap (W - 1) = W - 1 := by rw [IntKind.wrap_i64]; omega
  have wC : IntKind.i64.wrap (c' + d) = c' + d := by rw [IntKind.wrap_i64]; omega
  have HK := Lib.hid (call_mem w r c W H T E O p)
  go_enter Try.func18, Try.ntmps18
  go_wp2_with fail
  refine (CK.out _).mono ?_
  rintro e w1 ⟨rfl, b1⟩
  obtain ⟨q1, q2, q3, q4, q5⟩ := HK.out _ b1
  have u0 := q2.c0
  have u1 := q2.c1
  have u2 := q2.c2
  have m0 := q3.c0
  have m1 := q3.c1
  have m2 := q3.c2
  have m3 := q3.c3
  have m4 := q3.c4
  have Q := Lib.hid (And.intro q1 (And.intro q2 (And.intro q3 q4)))
  clear b1 CK HK q1 q2 q3 q4 q5
  go_wp2_with fail
  clear u0 u1 u2 m0 m1 m2 m3 m4
  refine (CS.out _).mono ?_
  rintro e w2 ⟨rfl, b2⟩
  have q0 := below_step (below_step Q.out.1 b2) (below_alloc w2 (.cells #[.int .i64 r', .int .i64 c', .bool false] 23))
  have q3 := (Q.out.2.2.1.below b2).below (below_alloc w2 (.cells #[.int .i64 r', .int .i64 c', .bool false] 23))
  have q4 := (Q.out.2.2.2.below b2).below (below_alloc w2 (.cells #[.int .i64 r', .int .i64 c', .bool false] 23))
  have q6 := Cr.laid w2 r' c' false
  have l4 := (Q.out.2.2.2.below b2).lt
  have n4 : w2.heap.size ≠ w.heap.size + 1 + 1 := by omega
  have g7 : w.heap.size ≤ w2.heap.size := by omega
  have K := Lib.hid (And.intro q0 (And.intro q3 (And.intro q4 q6)))
  clear b2 q0 q3 q4 q6 l4 Q CS
  go_wp2_with fail
  generalize w2.alloc (.cells #[.int .i64 r', .int .i64 c', .bool false] 23) = w3 at K ⊢
  generalize w2.heap.size = k7 at K n4 g7 ⊢
  have m0 := K.out.2.1.c0
  have v0 := K.out.2.2.2.c0
  have v1 := K.out.2.2.2.c1
  have v2 := K.out.2.2.2.c2
  have z1 := K.out.2.2.2.z 1
  have M0 : w3.drew.cell? ⟨w.heap.size + 1, 0, none⟩ = some (.int .i64 W) := m0
  have V1 : w3.drew.cell? ⟨k7, 1, none⟩ = some (.int .i64 c') := v1
  have Z1 : w3.drew.frozen? ⟨k7, 1, none⟩ = false := z1
  go_region_law (first
    | (go_simp; (with_reducible refine (C1.out _).mono ?_); rintro e w4 ⟨rfl, rfl⟩)
    | (go_simp; (with_reducible refine (C2.out _).mono ?_); rintro e w4 ⟨rfl, rfl⟩))
  all_goals
    have T4 := Lib.hid (K.out.2.2.1.other (o := 1) (Ne.symm n4) (.int .i64 C))
    have r0 := T4.out.z 0
    have r1 := T4.out.z 1
    have r2 := T4.out.z 2
    have y0 := T4.out.c0
    have y1 := T4.out.c1
    have y2 := T4.out.c2
    go_wp2
    refine bodyPost_ret (res_c rfl _ _ (w.heap.size + 1 + 1) r' C false rfl (T4.out.store3 _ _ _)) rfl ⟨rfl, ?_⟩
    exact (below_store3 (K.out.1.setCell (p := ⟨k7, 1, none⟩) g7 _) (by omega) _ _ _).drew

set_option maxHeartbeats 2000000 in
set_option maxRecDepth 100000 in
theorem refUp_ok (W H T E r c n : Int) (O p : Bool) (h : Ok W H T E) (w : World) :
    Calls Try.prog 16 #[.agg #[.int .i64 r, .int .i64 c, .bool p], .int .i64 n, .agg #[.int .i64 W, .int .i64 H, .int .i64 T, .int .i64 E, .bool O]] w
      fun e w' => e = .returned (.agg #[.int .i64 (upRow H T E (lim r 0 (H - 1)) n), .int .i64 (lim c 0 (W - 1)), .bool false]) ∧ Below w.heap.size w w' := by
  have CK := Lib.hid (fun w => refCheck_yes W H T E O h w)
  have CS := Lib.hid (fun w => refStart_any W H T E r c O p h w)
  have d1 := lim_ge r 0 (H - 1)
  have d2 := lim_le r 0 (H - 1) (by unfold Ok at h; omega)
  have hfar := up_far h (lim r 0 (H - 1)) n d1 d2
  have hfl := fst_le h (lim r 0 (H - 1)) d1 d2
  obtain ⟨a1, a2, a3, a4, a5, a6, a7⟩ := h
  generalize lim r 0 (H - 1) = r' at CS hfar hfl d1 d2 ⊢
  generalize lim c 0 (W - 1) = c' at CS ⊢
  have f1 := lim_ge n (-1000) 1000
  have f2 := lim_le n (-1000) 1000 (by omega)
  have C1 := Lib.hid (fun W' => refLim_any n (-1000) 1000 (by omega) W')
  have C2 := Lib.hid (fun W' => refLim_any (r' - lim n (-1000) 1000) (fst T E r') (lst H T E r') (by omega) W')
  rw [hfar] at C2
  clear hfar hfl
  generalize lim n (-1000) 1000 = d at C1 C2 f1 f2
  generalize upRow H T E r' n = R at C2 ⊢
  have CI := Lib.hid (fun w => refIn_any r' W H T E O w)
  have HF : Hid (fst T E r' = if reg T E r' = true then T else 0) := Lib.hid rfl
  have HL : Hid (lst H T E r' = if reg T E r' = true then E - 1 else H - 1) := Lib.hid rfl
  generalize fst T E r' = a at C2 HF
  generalize lst H T E r' = z at C2 HL
  generalize reg T E r' = q at CI HF HL
  have wC : IntKind.i64.wrap (r' - d) = r' - d := by rw [IntKind.wrap_i64]; omega
  have HK := Lib.hid (call_mem w r c W H T E O p)
  go_enter Try.func16, Try.ntmps16
  go_wp2_with fail
  refine (CK.out _).mono ?_
  rintro e w1 ⟨rfl, b1⟩
  obtain ⟨q1, q2, q3, q4, q5⟩ := HK.out _ b1
  have u0 := q2.c0
  have u1 := q2.c1
  have u2 := q2.c2
  have m0 := q3.c0
  have m1 := q3.c1
  have m2 := q3.c2
  have m3 := q3.c3
  have m4 := q3.c4
  have Q := Lib.hid (And.intro q1 (And.intro q2 (And.intro q3 q4)))
  clear b1 CK HK q1 q2 q3 q4 q5
  go_wp2_with fail
  clear u0 u1 u2 m0 m1 m2 m3 m4
  refine (CS.out _).mono ?_
  rintro e w2 ⟨rfl, b2⟩
  have q0 := below_step (below_step Q.out.1 b2) (below_alloc w2 (.cells #[.int .i64 r', .int .i64 c', .bool false] 23))
  have q3 := (Q.out.2.2.1.below b2).below (below_alloc w2 (.cells #[.int .i64 r', .int .i64 c', .bool false] 23))
  have q4 := (Q.out.2.2.2.below b2).below (below_alloc w2 (.cells #[.int .i64 r', .int .i64 c', .bool false] 23))
  have q6 := Cr.laid w2 r' c' false
  have l4 := (Q.out.2.2.2.below b2).lt
  have n4 : w2.heap.size ≠ w.heap.size + 1 + 1 := by omega
  have g7 : w.heap.size ≤ w2.heap.size := by omega
  have K := Lib.hid (And.intro q0 (And.intro q3 (And.intro q4 q6)))
  clear b2 q0 q3 q4 q6 l4 Q CS
  go_wp2_with fail
  generalize w2.alloc (.cells #[.int .i64 r', .int .i64 c', .bool false] 23) = w3 at K ⊢
  generalize w2.heap.size = k7 at K n4 g7 ⊢
  have m1 := K.out.2.1.c1
  go_quiet (fail)
  have K' : Hid (Below w.heap.size w (w3.drewN nq) ∧ Bd (w3.drewN nq) (w.heap.size + 1) W H T E O ∧ Cr (w3.drewN nq) (w.heap.size + 1 + 1) 0 0 false ∧ Cr (w3.drewN nq) k7 r' c' false) := Lib.hid ⟨below_drewN K.out.1 nq, K.out.2.1, K.out.2.2.1, K.out.2.2.2⟩
  clear m1 K
  generalize w3.drewN nq = w4 at K' ⊢
  have m0 := K'.out.2.1.c0
  have m1 := K'.out.2.1.c1
  have m2 := K'.out.2.1.c2
  have m3 := K'.out.2.1.c3
  have m4 := K'.out.2.1.c4
  have v0 := K'.out.2.2.2.c0
  go_wp2_with fail
  refine (CI.out _).mono ?_
  rintro e w5 ⟨rfl, b5⟩
  have K : Hid (Below w.heap.size w w5 ∧ Bd w5 (w.heap.size + 1) W H T E O ∧ Cr w5 (w.heap.size + 1 + 1) 0 0 false ∧ Cr w5 k7 r' c' false) := Lib.hid ⟨below_step K'.out.1 b5, K'.out.2.1.below b5, K'.out.2.2.1.below b5, K'.out.2.2.2.below b5⟩
  clear m0 m1 m2 m3 m4 v0 b5 K' CI
  have m2 := K.out.2.1.c2
  have m3 := K.out.2.1.c3
  have v0 := K.out.2.2.2.c0
  have v1 := K.out.2.2.2.c1
  have v2 := K.out.2.2.2.c2
  have z0 := K.out.2.2.2.z 0
  have V0 : w5.drew.cell? ⟨k7, 0, none⟩ = some (.int .i64 r') := v0
  have Z0 : w5.drew.frozen? ⟨k7, 0, none⟩ = false := z0
  cases q with
  | true =>
    have hf := HF.out
    have hl := HL.out
    simp only [if_true] at hf hl
    subst hf hl
    go_wp2_with fail
    go_region_law (first
      | (go_simp; (with_reducible refine (C1.out _).mono ?_); rintro e w4 ⟨rfl, rfl⟩)
      | (go_simp; (with_reducible refine (C2.out _).mono ?_); rintro e w4 ⟨rfl, rfl⟩))
    all_goals
      have T4 := Lib.hid (K.out.2.2.1.other (o := 0) (Ne.symm n4) (.int .i64 R))
      have r0 := T4.out.z 0
      have r1 := T4.out.z 1
      have r2 := T4.out.z 2
      have y0 := T4.out.c0
      have y1 := T4.out.c1
      have y2 := T4.out.c2
      go_wp2
      refine bodyPost_ret (res_c rfl _ _ (w.heap.size + 1 + 1) R c' false rfl (T4.out.store3 _ _ _)) rfl ⟨rfl, ?_⟩
      exact (below_store3 (K.out.1.setCell (p := ⟨k7, 0, none⟩) g7 _) (by omega) _ _ _).drew
  | false =>
    have hf := HF.out
    have hl := HL.out
    simp only [Bool.false_eq_true, if_false] at hf hl
    subst hf hl
    go_wp2_with fail
    go_region_law (first
      | (go_simp; (with_reducible refine (C1.out _).mono ?_); rintro e w4 ⟨rfl, rfl⟩)
      | (go_simp; (with_reducible refine (C2.out _).mono ?_); rintro e w4 ⟨rfl, rfl⟩))
    all_goals
      have T4 := Lib.hid (K.out.2.2.1.other (o := 0) (Ne.symm n4) (.int .i64 R))
      have r0 := T4.out.z 0
      have r1 := T4.out.z 1
      have r2 := T4.out.z 2
      have y0 := T4.out.c0
      have y1 := T4.out.c1
      have y2 := T4.out.c2
      go_wp2
      refine bodyPost_ret (res_c rfl _ _ (w.heap.size + 1 + 1) R c' false rfl (T4.out.store3 _ _ _)) rfl ⟨rfl, ?_⟩
      exact (below_store3 (K.out.1.setCell (p := ⟨k7, 0, none⟩) g7 _) (by omega) _ _ _).drew

end Go.Proofs.Yteenjjiobibokaa
