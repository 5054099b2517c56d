/-
  The statement of layer 10 on Clamp, whole; the statement on To: the walks.
-/
import Derived.Test.YteenjjiobibokaaCuWalkC1
import Derived.Test.YteenjjiobibokaaCuWalkC2
namespace Go.Proofs.Yteenjjiobibokaa
open Go.RowKit Cu

set_option maxHeartbeats 1000000 in
set_option maxRecDepth 100000 in
theorem clamp_improper (W H T E r c : Int) (O p : Bool) (h : ¬ Ok W H T E) (w : World) :
    Calls Try.prog 10 #[.agg #[.int .i64 r, .int .i64 c, .bool p], .agg #[.int .i64 W, .int .i64 H, .int .i64 T, .int .i64 E, .bool O]] w fun e w' => e = .returned (.bool true) ∧ Below w.heap.size w w' := by
  have CK := Lib.hid (fun w => check_no W H T E O h w)
  have HK := Lib.hid (mem2 w r c W H T E O p)
  clear h
  go_enter Try.func10, Try.ntmps10
  go_wp2_with fail
  refine (CK.out _).mono ?_
  rintro e w1 ⟨rfl, b1⟩
  have K := Lib.hid (HK.out _ b1)
  clear b1 CK HK
  go_wp2_with fail
  refine (awake_any _).mono ?_
  rintro e w2 ⟨rfl, b2⟩
  go_wp2
  go_ret
  exact ⟨rfl, below_step K.out.1 b2⟩

theorem clamp_walk (r c : Int) (p : Bool) (W H T E : Int) (O : Bool) (w : World) :
    Calls Try.prog 10 #[.agg #[.int .i64 r, .int .i64 c, .bool p], .agg #[.int .i64 W, .int .i64 H, .int .i64 T, .int .i64 E, .bool O]] w fun e w' => e = .returned (.bool true) ∧ Below w.heap.size w w' := by
  by_cases h : Ok W H T E
  · cases hP : (p && lim c 0 (W - 1) == W - 1) with
    | true => exact clamp_true W H T E r c _ _ O p h rfl rfl hP w
    | false => exact clamp_false W H T E r c _ _ O p h rfl rfl hP w
  · exact clamp_improper W H T E r c O p h w

theorem tmod_in (x m : Int) (h0 : 0 ≤ x) (hm : 1 ≤ m) : 0 ≤ x.tmod m ∧ x.tmod m ≤ m - 1 := by
  rw [Int.tmod_eq_emod_of_nonneg h0]
  have := Int.emod_nonneg x (b := m) (by omega)
  have := Int.emod_lt_of_pos x (b := m) (by omega)
  omega
theorem toCol_at {W H T E : Int} (_ : Ok W H T E) (k : Int) (h0 : 0 ≤ k) (h1 : k ≤ W - 1) : toCol W (k + 1) = k := by
  unfold toCol lim
  omega
theorem toCol_zero {W H T E : Int} (h : Ok W H T E) : toCol W 0 = 0 := by
  obtain ⟨_, _, _, _, _, _, _⟩ := h
  unfold toCol lim
  omega
theorem toRow_at {W H T E : Int} (_ : Ok W H T E) (O : Bool) (i : Int) (h0 : 0 ≤ i) (h1 : i ≤ (if O then E - T else H) - 1) : toRow H T E O (i + 1) = (if O then T else 0) + i := by
  unfold toRow lim
  cases O <;> simp at h1 ⊢ <;> omega
theorem toRow_zero {W H T E : Int} (h : Ok W H T E) (O : Bool) : toRow H T E O 0 = (if O then T else 0) := by
  obtain ⟨_, _, _, _, _, _, _⟩ := h
  unfold toRow lim
  cases O <;> simp <;> omega

set_option maxHeartbeats 2000000 in
set_option maxRecDepth 100000 in
theorem address_walk (r c : Int) (p : Bool) (W H T E : Int) (O : Bool) (row col : Int) (w : World) (x0 : 0 ≤ row) (x1 : row ≤ 255) (y0 : 0 ≤ col) (y1 : col ≤ 255) :
    Calls Try.prog 7 #[.agg #[.int .i64 r, .int .i64 c, .bool p], .agg #[.int .i64 W, .int .i64 H, .int .i64 T, .int .i64 E, .bool O], .int .u8 row, .int .u8 col] w fun e w' => e = .returned (.bool true) ∧ Below w.heap.size w w' := by
  have HK := Lib.hid (mem2 w r c W H T E O p)
  by_cases h : Ok W H T E
  · have eq1 := Try.stoodInHeld23
    have eq2 := Try.eqGuardType23
    have CK := Lib.hid (fun w => check_yes W H T E O h w)
    have CT := Lib.hid (fun x y w => to_ok W H T E r c x y O p h w)
    have tz := toRow_zero h O
    have cz := toCol_zero h
    have HO := Lib.hid h
    obtain ⟨a1, a2, a3, a4, a5, a6, a7⟩ := h
    obtain ⟨k, hk, hk0, hk1⟩ : ∃ k, col.tmod W = k ∧ 0 ≤ k ∧ k ≤ W - 1 := ⟨_, rfl, (tmod_in col W y0 a1).1, (tmod_in col W y0 a1).2⟩
    obtain ⟨i, hi, hi0, hi1⟩ : ∃ i, row.tmod H = i ∧ 0 ≤ i ∧ i ≤ H - 1 := ⟨_, rfl, (tmod_in row H x0 a3).1, (tmod_in row H x0 a3).2⟩
    obtain ⟨s, hs⟩ : ∃ s, E - T = s := ⟨_, rfl⟩
    obtain ⟨j, hj, hj0, hj1⟩ : ∃ j, row.tmod s = j ∧ 0 ≤ j ∧ j ≤ s - 1 := ⟨_, rfl, (tmod_in row s x0 (by omega)).1, (tmod_in row s x0 (by omega)).2⟩
    have nW : (W == 0) = false := by simp; omega
    have nH : (H == 0) = false := by simp; omega
    have ns : (s == 0) = false := by simp; omega
    have mW : ¬ W = 0 := by omega
    have mH : ¬ H = 0 := by omega
    have ms : ¬ s = 0 := by omega
    have ws : IntKind.i64.wrap (E - T) = s := by rw [IntKind.wrap_i64]; omega
    have s0 : 1 ≤ s := by omega
    have s1 : s ≤ 60 := by omega
    have CT1 := Lib.hid (fun w => CT.out (i + 1) (k + 1) w)
    have CT2 := Lib.hid (fun w => CT.out (j + 1) (k + 1) w)
    have CT3 := Lib.hid (fun w => CT.out 0 0 w)
    rw [toCol_at HO.out k hk0 hk1] at CT1 CT2
    rw [tz, cz] at CT3
    cases O with
    | true =>
      rw [toRow_at HO.out true j hj0 (by simp; omega)] at CT2
      simp only [if_true] at CT2 CT3
      clear CT1 CT tz cz HO
      have HS := Lib.hid hs
      clear hs
      go_enter Try.func7, Try.ntmps7
      go_wp2_with fail
      refine (CK.out _).mono ?_
      rintro e w1 ⟨rfl, b1⟩
      have K := Lib.hid (HK.out _ b1)
      clear b1 CK HK
      have m0 := K.out.2.2.c0
      have m1 := K.out.2.2.c1
      have m2 := K.out.2.2.c2
      have m3 := K.out.2.2.c3
      have m4 := K.out.2.2.c4
      have u0 := K.out.2.1.c0
      have u1 := K.out.2.1.c1
      have u2 := K.out.2.1.c2
      go_wp2_with fail
      go_quiet (fail)
      have K' : Hid (Below w.heap.size w (w1.drewN nq) ∧ Cr (w1.drewN nq) w.heap.size r c p ∧ Bd (w1.drewN nq) (w.heap.size + 1) W H T E true) := Lib.hid ⟨below_drewN K.out.1 nq, K.out.2.1, K.out.2.2⟩
      clear K m0 m1 m2 m3 m4 u0 u1 u2
      generalize w1.drewN nq = wq at K' ⊢
      have K := K'
      clear K'
      have m0 := K.out.2.2.c0
      have m1 := K.out.2.2.c1
      have m2 := K.out.2.2.c2
      have m3 := K.out.2.2.c3
      have m4 := K.out.2.2.c4
      have u0 := K.out.2.1.c0
      have u1 := K.out.2.1.c1
      have u2 := K.out.2.1.c2
      go_wp2_with fail
      refine (CT2.out _).mono ?_
      rintro e w2 ⟨rfl, b2⟩
      have K2 := Lib.hid (show Below w.heap.size w w2 ∧ Cr w2 w.heap.size r c p ∧ Bd w2 (w.heap.size + 1) W H T E true from ⟨below_step K.out.1 b2, K.out.2.1.below b2, K.out.2.2.below b2⟩)
      clear b2 K m0 m1 m2 m3 m4 u0 u1 u2
      have m0 := K2.out.2.2.c0
      have m1 := K2.out.2.2.c1
      have m2 := K2.out.2.2.c2
      have m3 := K2.out.2.2.c3
      have m4 := K2.out.2.2.c4
      have u0 := K2.out.2.1.c0
      have u1 := K2.out.2.1.c1
      have u2 := K2.out.2.1.c2
      go_wp2_with fail
      refine (CT3.out _).mono ?_
      rintro e w3 ⟨rfl, b3⟩
      go_wp2_with fail
      refine (awake_any _).mono ?_
      rintro e w4 ⟨rfl, b4⟩
      go_wp2
      go_ret
      exact ⟨rfl, below_step (below_step K2.out.1 b3) b4⟩
    | false =>
      rw [toRow_at HO.out false i hi0 (by simp; omega)] at CT1
      simp only [Bool.false_eq_true, if_false] at CT1 CT3
      rw [Int.zero_add] at CT1
      clear CT2 CT tz cz HO hs hj ws ns ms s0 s1 hj0 hj1
      go_enter Try.func7, Try.ntmps7
      go_wp2_with fail
      refine (CK.out _).mono ?_
      rintro e w1 ⟨rfl, b1⟩
      have K := Lib.hid (HK.out _ b1)
      clear b1 CK HK
      have m0 := K.out.2.2.c0
      have m1 := K.out.2.2.c1
      have m2 := K.out.2.2.c2
      have m3 := K.out.2.2.c3
      have m4 := K.out.2.2.c4
      have u0 := K.out.2.1.c0
      have u1 := K.out.2.1.c1
      have u2 := K.out.2.1.c2
      go_wp2_with fail
      refine (CT1.out _).mono ?_
      rintro e w2 ⟨rfl, b2⟩
      have K2 := Lib.hid (show Below w.heap.size w w2 ∧ Cr w2 w.heap.size r c p ∧ Bd w2 (w.heap.size + 1) W H T E false from ⟨below_step K.out.1 b2, K.out.2.1.below b2, K.out.2.2.below b2⟩)
      clear b2 K m0 m1 m2 m3 m4 u0 u1 u2
      have m0 := K2.out.2.2.c0
      have m1 := K2.out.2.2.c1
      have m2 := K2.out.2.2.c2
      have m3 := K2.out.2.2.c3
      have m4 := K2.out.2.2.c4
      have u0 := K2.out.2.1.c0
      have u1 := K2.out.2.1.c1
      have u2 := K2.out.2.1.c2
      go_wp2_with fail
      refine (CT3.out _).mono ?_
      rintro e w3 ⟨rfl, b3⟩
      go_wp2_with fail
      refine (awake_any _).mono ?_
      rintro e w4 ⟨rfl, b4⟩
      go_wp2
      go_ret
      exact ⟨rfl, below_step (below_step K2.out.1 b3) b4⟩
  · have CK := Lib.hid (fun w => check_no W H T E O h w)
    clear h
    go_enter Try.func7, Try.ntmps7
    go_wp2_with fail
    refine (CK.out _).mono ?_
    rintro e w1 ⟨rfl, b1⟩
    have K := Lib.hid (HK.out _ b1)
    clear b1 CK HK
    go_wp2_with fail
    refine (awake_any _).mono ?_
    rintro e w2 ⟨rfl, b2⟩
    go_wp2
    go_ret
    exact ⟨rfl, below_step K.out.1 b2⟩

end Go.Proofs.Yteenjjiobibokaa
