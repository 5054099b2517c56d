/-
  The statement of layer 10 on movements that return: the walk.
-/
import Derived.Test.YteenjjiobibokaaCuMem
import Derived.Deep.RegionHeld3
namespace Go.Proofs.Yteenjjiobibokaa
open Go.RowKit Cu

theorem feed_next {H E r : Int} (h1 : ¬ r = E - 1) (h2 : r < H - 1) : feedRow H E r = r + 1 := by unfold feedRow; rw [if_neg h1, if_pos h2]
theorem back_next {T r : Int} (h1 : ¬ r + 1 = T) (h0 : 0 ≤ r) : backRow T (r + 1) = r := by unfold backRow; rw [if_neg h1, if_pos (by omega)]; omega

set_option maxHeartbeats 8000000 in
set_option maxRecDepth 100000 in
theorem returns_main (r c : Int) (W H T E : Int) (O : Bool) (n : Int) (w : World) (h : Ok W H T E) (g1 : 0 ≤ r) (g2 : r < H) (g3 : 0 ≤ c) (g4 : c < W) (x0 : 0 ≤ n) (x1 : n ≤ 255) :
    Calls Try.prog 9 #[.agg #[.int .i64 r, .int .i64 c, .bool false], .agg #[.int .i64 W, .int .i64 H, .int .i64 T, .int .i64 E, .bool O], .int .u8 n] w fun e w' => e = .returned (.bool true) ∧ Below w.heap.size w w' := by
  have eq1 := Try.stoodInHeld23
  have eq2 := Try.eqGuardType23
  have CK := Lib.hid (fun w => check_yes W H T E O h w)
  have CI := Lib.hid (fun w => inside_yes r c W H T E O ⟨g1, g2, g3, g4⟩ w)
  have lr : lim r 0 (H - 1) = r := lim_in _ _ _ g1 (by omega)
  have lc : lim c 0 (W - 1) = c := lim_in _ _ _ g3 (by omega)
  have G1 := Lib.hid (fun U => feed_ok W H T E r c O false h U)
  rw [lr, lc] at G1
  have GB := Lib.hid (fun U => back_ok W H T E (r + 1) c O false h U)
  rw [lc] at GB
  have G2 := Lib.hid (fun n r' U => up_ok W H T E r' c n O false h U)
  rw [lc] at G2
  have G3 := Lib.hid (fun n c' U => right_ok W H T E r c' n O false h U)
  rw [lr] at G3
  obtain ⟨k, hk, hk0, hk1⟩ : ∃ k, n.tmod 8 = k ∧ 0 ≤ k ∧ k ≤ 7 := ⟨_, rfl, by rw [Int.tmod_eq_emod_of_nonneg x0]; omega, by rw [Int.tmod_eq_emod_of_nonneg x0]; omega⟩
  obtain ⟨a1, a2, a3, a4, a5, a6, a7⟩ := h
  have HLR := Lib.hid lr
  have HLC := Lib.hid lc
  obtain ⟨qa, hqa⟩ : ∃ qa, decide (¬ r = E - 1 ∧ r < H - 1 ∧ ¬ r + 1 = T) = qa := ⟨_, rfl⟩
  have HQ := Lib.hid hqa
  obtain ⟨Rf, hRf⟩ : ∃ Rf, feedRow H E r = Rf := ⟨_, rfl⟩
  obtain ⟨N, hN⟩ : ∃ N, (if r = E - 1 then (1 : Int) else 0) = N := ⟨_, rfl⟩
  rw [hRf, hN] at G1
  have HRf := Lib.hid hRf
  have HN := Lib.hid hN
  have HK := Lib.hid (Me.start w r c W H T E O false)
  clear lr lc hqa hRf hN
  go_enter Try.func9, Try.ntmps9
  go_wp2_with fail
  refine (CK.out _).mono ?_
  rintro e w0 ⟨rfl, b0⟩
  have K0 := Lib.hid (HK.out _ b0)
  clear b0 HK CK
  have u0 := K0.out.2.1.c0
  have u1 := K0.out.2.1.c1
  have u2 := K0.out.2.1.c2
  have m0 := K0.out.2.2.1.c0
  have m1 := K0.out.2.2.1.c1
  have m2 := K0.out.2.2.1.c2
  have m3 := K0.out.2.2.1.c3
  have m4 := K0.out.2.2.1.c4
  go_wp2_with fail
  clear u0 u1 u2 m0 m1 m2 m3 m4
  refine (CI.out _).mono ?_
  rintro e w1 ⟨rfl, b1⟩
  have K1 := Lib.hid (K0.out.below b1)
  clear b1 K0 CI
  have u0 := K1.out.2.1.c0
  have u1 := K1.out.2.1.c1
  have u2 := K1.out.2.1.c2
  have m0 := K1.out.2.2.1.c0
  have m1 := K1.out.2.2.1.c1
  have m2 := K1.out.2.2.1.c2
  have m3 := K1.out.2.2.1.c3
  have m4 := K1.out.2.2.1.c4
  go_wp2_with fail
  clear u0 u1 u2 m0 m1 m2 m3 m4
  refine (G1.out _).mono ?_
  rintro e w2 ⟨rfl, b2⟩
  have K2 := Lib.hid ((K1.out.below b2).more Rf c false)
  clear b2 K1 G1
  go_upto_region 4 with fail
  generalize w2.alloc (.cells #[.int .i64 Rf, .int .i64 c, .bool false] 23) = wy at K2 ⊢
  generalize w2.heap.size = k7 at K2 ⊢
  go_cut [45] (fun t wx => t = .bool qa ∧ wy = wx)
  case first =>
    have u0 := K2.out.2.1.c0
    have m1 := K2.out.2.2.1.c1
    have m2 := K2.out.2.2.1.c2
    have key : (r = E - 1) ∨ (¬ r = E - 1 ∧ ¬ r < H - 1) ∨ (¬ r = E - 1 ∧ r < H - 1 ∧ r + 1 = T) ∨ (¬ r = E - 1 ∧ r < H - 1 ∧ ¬ r + 1 = T) := by omega
    rcases key with h1 | ⟨h1, h2⟩ | ⟨h1, h2, h3⟩ | ⟨h1, h2, h3⟩
    · obtain rfl : N = 1 := by rw [← HN.out, if_pos h1]
      obtain rfl : qa = false := by rw [← HQ.out]; simp [h1]
      clear h1
      go_wp2
      go_meet
      exact ⟨rfl, rfl⟩
    · obtain rfl : N = 0 := by rw [← HN.out, if_neg h1]
      obtain rfl : qa = false := by rw [← HQ.out]; simp; omega
      clear h1
      go_wp2
      go_meet
      exact ⟨rfl, rfl⟩
    · obtain rfl : N = 0 := by rw [← HN.out, if_neg h1]
      obtain rfl : qa = false := by rw [← HQ.out]; simp; omega
      have e3 : (r + 1 != T) = false := by simp; omega
      clear h1 h3
      go_wp2
      go_meet
      exact ⟨rfl, rfl⟩
    · obtain rfl : N = 0 := by rw [← HN.out, if_neg h1]
      obtain rfl : qa = true := by rw [← HQ.out]; simp; omega
      have e3 : (r + 1 != T) = true := by simp; omega
      clear h1 h3
      go_wp2
      go_meet
      exact ⟨rfl, rfl⟩
  case rest =>
    obtain ⟨rfl, rfl⟩ := hcut
    go_upto_if 45 with fail
    go_cut [9, 10] (fun _ _ wx => Aside (Me w wx r c false W H T E O []))
    case first =>
      cases qa with
      | false =>
        go_wp2
        go_meet
        exact ⟨K2.out.1, K2.out.2.1, K2.out.2.2.1, fun _ h => by cases h⟩
      | true =>
        have hq := of_decide_eq_true HQ.out
        obtain ⟨h1, h2, h3⟩ := hq
        obtain rfl : r + 1 = Rf := by rw [← HRf.out]; exact (feed_next h1 h2).symm
        have lf : lim (r + 1) 0 (H - 1) = r + 1 := lim_in _ _ _ (by omega) (by omega)
        rw [lf, back_next h3 g1, if_neg h3] at GB
        clear h1 h3 lf
        have x0 := (K2.out.at 0 rfl).c0
        have x1 := (K2.out.at 0 rfl).c1
        have x2 := (K2.out.at 0 rfl).c2
        have m0 := K2.out.2.2.1.c0
        have m1 := K2.out.2.2.1.c1
        have m2 := K2.out.2.2.1.c2
        have m3 := K2.out.2.2.1.c3
        have m4 := K2.out.2.2.1.c4
        go_wp2_with fail
        clear x0 x1 x2 m0 m1 m2 m3 m4
        refine (GB.out _).mono ?_
        rintro e w3 ⟨rfl, b3⟩
        have K3 := Lib.hid ((K2.out.below b3).more r c false)
        have u0 := K3.out.2.1.c0
        have u1 := K3.out.2.1.c1
        have u2 := K3.out.2.1.c2
        have x0 := (K3.out.at 0 rfl).c0
        have en : (r + 1 != r + 1) = false := by simp
        have er : (r == r) = true := by simp
        have ec : (c == c) = true := by simp
        clear b3 K2
        go_wp2
        go_meet
        exact ⟨K3.out.1, K3.out.2.1, K3.out.2.2.1, fun _ h => by cases h⟩
    case rest =>
      have K4 := Lib.hid hcut.out
      clear hcut HRf HN HQ GB K2
      have wk : IntKind.i64.wrap (-k) = -k := by rw [IntKind.wrap_i64]; omega
      have wr : IntKind.i64.wrap (r + k) = r + k := by rw [IntKind.wrap_i64]; omega
      have wc : IntKind.i64.wrap (c + k) = c + k := by rw [IntKind.wrap_i64]; omega
      have er : (r == r) = true := by simp
      have ec : (c == c) = true := by simp
      have ef : (false == false) = true := rfl
      have key0 : ∀ U, Me w U r c false W H T E O [] → (U.cell? ⟨w.heap.size, 0, none⟩ = some (.int .i64 r) ∧ U.cell? ⟨w.heap.size, 1, none⟩ = some (.int .i64 c) ∧ U.cell? ⟨w.heap.size, 2, none⟩ = some (.bool false) ∧ U.cell? ⟨w.heap.size + 1, 0, none⟩ = some (.int .i64 W) ∧ U.cell? ⟨w.heap.size + 1, 1, none⟩ = some (.int .i64 H) ∧ U.cell? ⟨w.heap.size + 1, 2, none⟩ = some (.int .i64 T) ∧ U.cell? ⟨w.heap.size + 1, 3, none⟩ = some (.int .i64 E) ∧ U.cell? ⟨w.heap.size + 1, 4, none⟩ = some (.bool O) ∧ Aside (Me w U r c false W H T E O [])) := fun U k => ⟨k.2.1.c0, k.2.1.c1, k.2.1.c2, k.2.2.1.c0, k.2.2.1.c1, k.2.2.1.c2, k.2.2.1.c3, k.2.2.1.c4, k⟩
      have HKEEP : Hid (∀ (U U' : World), (U.cell? ⟨w.heap.size, 0, none⟩ = some (.int .i64 r) ∧ U.cell? ⟨w.heap.size, 1, none⟩ = some (.int .i64 c) ∧ U.cell? ⟨w.heap.size, 2, none⟩ = some (.bool false) ∧ U.cell? ⟨w.heap.size + 1, 0, none⟩ = some (.int .i64 W) ∧ U.cell? ⟨w.heap.size + 1, 1, none⟩ = some (.int .i64 H) ∧ U.cell? ⟨w.heap.size + 1, 2, none⟩ = some (.int .i64 T) ∧ U.cell? ⟨w.heap.size + 1, 3, none⟩ = some (.int .i64 E) ∧ U.cell? ⟨w.heap.size + 1, 4, none⟩ = some (.bool O) ∧ Aside (Me w U r c false W H T E O [])) → Below U.heap.size U U' → (U'.cell? ⟨w.heap.size, 0, none⟩ = some (.int .i64 r) ∧ U'.cell? ⟨w.heap.size, 1, none⟩ = some (.int .i64 c) ∧ U'.cell? ⟨w.heap.size, 2, none⟩ = some (.bool false) ∧ U'.cell? ⟨w.heap.size + 1, 0, none⟩ = some (.int .i64 W) ∧ U'.cell? ⟨w.heap.size + 1, 1, none⟩ = some (.int .i64 H) ∧ U'.cell? ⟨w.heap.size + 1, 2, none⟩ = some (.int .i64 T) ∧ U'.cell? ⟨w.heap.size + 1, 3, none⟩ = some (.int .i64 E) ∧ U'.cell? ⟨w.heap.size + 1, 4, none⟩ = some (.bool O) ∧ Aside (Me w U' r c false W H T E O []))) := Lib.hid (fun U U' hs hu => key0 U' (hs.2.2.2.2.2.2.2.2.out.below hu))
      have HKEY := Lib.hid key0
      clear key0
      go_upto_region 9 with fail
      go_cut [95] (fun t wx => t = .bool false ∧ Aside (Me w wx r c false W H T E O []))
      case first =>
        have u0 := K4.out.2.1.c0
        have u1 := K4.out.2.1.c1
        have m0 := K4.out.2.2.1.c0
        have m2 := K4.out.2.2.1.c2
        have m3 := K4.out.2.2.1.c3
        have key : (¬ T ≤ r) ∨ (T ≤ r ∧ ¬ r + k < E) ∨ (T ≤ r ∧ r + k < E) := by omega
        rcases key with h1 | ⟨h1, h2⟩ | ⟨h1, h2⟩
        · have b1 : decide (T ≤ r) = false := by simpa using h1
          go_quiet (fail)
          go_wp2
          go_meet
          exact ⟨rfl, below_drewN K4.out.1 nq, K4.out.2.1, K4.out.2.2.1, fun _ h => by cases h⟩
        · have b1 : decide (T ≤ r) = true := by simpa using h1
          have b2 : decide (r + k < E) = false := by simpa using h2
          go_quiet (fail)
          go_wp2
          go_meet
          exact ⟨rfl, below_drewN K4.out.1 nq, K4.out.2.1, K4.out.2.2.1, fun _ h => by cases h⟩
        · have b1 : decide (T ≤ r) = true := by simpa using h1
          have b2 : decide (r + k < E) = true := by simpa using h2
          have hr : reg T E r = true := reg_true.2 ⟨h1, by omega⟩
          have e1 : upRow H T E r (-k) = r + k := by rw [up_at _ hr]; unfold lim; omega
          have hr2 : reg T E (r + k) = true := reg_true.2 ⟨by omega, h2⟩
          have e2 : upRow H T E (r + k) k = r := by rw [up_at _ hr2]; unfold lim; omega
          have P1 := Lib.hid (G2.out (-k) r)
          rw [HLR.out, e1] at P1
          have P2 := Lib.hid (G2.out k (r + k))
          rw [lim_in (r + k) 0 (H - 1) (by omega) (by omega), e2] at P2
          clear e1 e2 hr hr2 h1 h2
          have hS := HKEY.out _ (K4.out.below (Below.refl _ _).drew)
          clear u0 u1 m0 m2 m3
          refine wp_region_held_drew (S := fun U => U.cell? ⟨w.heap.size, 0, none⟩ = some (.int .i64 r) ∧ U.cell? ⟨w.heap.size, 1, none⟩ = some (.int .i64 c) ∧ U.cell? ⟨w.heap.size, 2, none⟩ = some (.bool false) ∧ U.cell? ⟨w.heap.size + 1, 0, none⟩ = some (.int .i64 W) ∧ U.cell? ⟨w.heap.size + 1, 1, none⟩ = some (.int .i64 H) ∧ U.cell? ⟨w.heap.size + 1, 2, none⟩ = some (.int .i64 T) ∧ U.cell? ⟨w.heap.size + 1, 3, none⟩ = some (.int .i64 E) ∧ U.cell? ⟨w.heap.size + 1, 4, none⟩ = some (.bool O) ∧ Aside (Me w U r c false W H T E O [])) (by kernel_rfl) hS (fun hHeld => ?_)
          clear hS
          refine wpAnyH_take (i := 0) (v := ?_) rfl (by kernel_rfl) (by kernel_rfl) (by kernel_rfl) (fun _ _ _ h => h) (Or.inl ⟨by rfl, ?_⟩) (by assumption) ?_
          rotate_left
          · (intro W hSw; (try dsimp only at hSw); go_simp; try with_reducible rfl)
          simp only [Act.put, List.getElem_toArray, List.getElem_cons_zero, List.setIfInBounds_toArray, List.set_cons_zero, List.set_cons_succ]
          refine wpAnyH_take (i := 1) (v := ?_) rfl (by kernel_rfl) (by kernel_rfl) (by kernel_rfl) (fun _ _ _ h => h) (Or.inl ⟨by rfl, ?_⟩) (by assumption) ?_
          rotate_left
          · (intro W hSw; (try dsimp only at hSw); go_simp; try with_reducible rfl)
          simp only [Act.put, List.getElem_toArray, List.getElem_cons_succ, List.getElem_cons_zero, List.setIfInBounds_toArray, List.set_cons_zero, List.set_cons_succ]
          refine wpAnyH_take (i := 2) (v := ?_) rfl (by kernel_rfl) (by kernel_rfl) (by kernel_rfl) (fun _ _ _ h => h) (Or.inl ⟨by rfl, ?_⟩) (by assumption) ?_
          rotate_left
          · (intro W hSw; (try dsimp only at hSw); go_simp; try with_reducible rfl)
          simp only [Act.put, List.getElem_toArray, List.getElem_cons_succ, List.getElem_cons_zero, List.setIfInBounds_toArray, List.set_cons_zero, List.set_cons_succ]
          refine wpAnyH_take (i := 3) (v := ?_) rfl (by kernel_rfl) (by kernel_rfl) (by kernel_rfl) (fun _ _ _ h => h) (Or.inl ⟨by rfl, ?_⟩) (by assumption) ?_
          rotate_left
          · (intro W hSw; (try dsimp only at hSw); go_simp; try with_reducible rfl)
          simp only [Act.put, List.getElem_toArray, List.getElem_cons_succ, List.getElem_cons_zero, List.setIfInBounds_toArray, List.set_cons_zero, List.set_cons_succ]
          refine wpAnyH_take (i := 4) (v := ?_) rfl (by kernel_rfl) (by kernel_rfl) (by kernel_rfl) (fun _ _ _ h => h) (Or.inl ⟨by rfl, ?_⟩) (by assumption) ?_
          rotate_left
          · (intro W hSw; (try dsimp only at hSw); go_simp; try with_reducible rfl)
          simp only [Act.put, List.getElem_toArray, List.getElem_cons_succ, List.getElem_cons_zero, List.setIfInBounds_toArray, List.set_cons_zero, List.set_cons_succ]
          refine wpAnyH_take (i := 5) (v := ?_) rfl (by kernel_rfl) (by kernel_rfl) (by kernel_rfl) (fun _ _ _ h => h) (Or.inl ⟨by rfl, ?_⟩) (by assumption) ?_
          rotate_left
          · (intro W hSw; (try dsimp only at hSw); go_simp; try with_reducible rfl)
          simp only [Act.put, List.getElem_toArray, List.getElem_cons_succ, List.getElem_cons_zero, List.setIfInBounds_toArray, List.set_cons_zero, List.set_cons_succ]
          refine wpAnyH_take (i := 6) (v := ?_) rfl (by kernel_rfl) (by kernel_rfl) (by kernel_rfl) (fun _ _ _ h => h) (Or.inl ⟨by rfl, ?_⟩) (by assumption) ?_
          rotate_left
          · (intro W hSw; (try dsimp only at hSw); go_simp; try with_reducible rfl)
          simp only [Act.put, List.getElem_toArray, List.getElem_cons_succ, List.getElem_cons_zero, List.setIfInBounds_toArray, List.set_cons_zero, List.set_cons_succ]
          refine wpAnyH_take (i := 7) (v := ?_) rfl (by kernel_rfl) (by kernel_rfl) (by kernel_rfl) (fun _ _ _ h => h) (Or.inl ⟨by rfl, ?_⟩) (by assumption) ?_
          rotate_left
          · (intro W hSw; (try dsimp only at hSw); go_simp; try with_reducible rfl)
          simp only [Act.put, List.getElem_toArray, List.getElem_cons_succ, List.getElem_cons_zero, List.setIfInBounds_toArray, List.set_cons_zero, List.set_cons_succ]
          refine wpAnyH_take (i := 8) (v := ?_) rfl (by kernel_rfl) (by kernel_rfl) (by kernel_rfl) (fun _ _ _ h => h) (Or.inl ⟨by rfl, ?_⟩) (by assumption) ?_
          rotate_left
          · (intro W hSw; (try dsimp only at hSw); go_simp; try with_reducible rfl)
          simp only [Act.put, List.getElem_toArray, List.getElem_cons_succ, List.getElem_cons_zero, List.setIfInBounds_toArray, List.set_cons_zero, List.set_cons_succ]
          refine wpAnyH_take (i := 9) (v := ?_) rfl (by kernel_rfl) (by kernel_rfl) (by kernel_rfl) (fun _ _ _ h => h) (Or.inl ⟨by rfl, ?_⟩) (by assumption) ?_
          rotate_left
          · (intro W hSw; (try dsimp only at hSw); go_simp; try with_reducible rfl)
          simp only [Act.put, List.getElem_toArray, List.getElem_cons_succ, List.getElem_cons_zero, List.setIfInBounds_toArray, List.set_cons_zero, List.set_cons_succ]
          refine wpAnyH_take (i := 10) (v := ?_) rfl (by kernel_rfl) (by kernel_rfl) (by kernel_rfl) (fun _ _ _ h => h) (Or.inl ⟨by rfl, ?_⟩) (by assumption) ?_
          rotate_left
          · (intro W hSw; (try dsimp only at hSw); go_simp; try with_reducible rfl)
          simp only [Act.put, List.getElem_toArray, List.getElem_cons_succ, List.getElem_cons_zero, List.setIfInBounds_toArray, List.set_cons_zero, List.set_cons_succ]
          refine wpAnyH_take (i := 11) (v := ?_) rfl (by kernel_rfl) (by kernel_rfl) (by kernel_rfl) (fun _ _ _ h => h) (Or.inl ⟨by rfl, ?_⟩) (by assumption) ?_
          rotate_left
          · (intro W hSw; (try dsimp only at hSw); go_simp; try with_reducible rfl)
          simp only [Act.put, List.getElem_toArray, List.getElem_cons_succ, List.getElem_cons_zero, List.setIfInBounds_toArray, List.set_cons_zero, List.set_cons_succ]
          refine wpAnyH_take (i := 12) (v := ?_) rfl (by kernel_rfl) (by kernel_rfl) (by kernel_rfl) (fun _ _ _ h => h) (Or.inl ⟨by rfl, ?_⟩) (by assumption) ?_
          rotate_left
          · (intro W hSw; (try dsimp only at hSw); go_simp; try with_reducible rfl)
          simp only [Act.put, List.getElem_toArray, List.getElem_cons_succ, List.getElem_cons_zero, List.setIfInBounds_toArray, List.set_cons_zero, List.set_cons_succ]
          refine wpAnyH_take (i := 13) (v := ?_) rfl (by kernel_rfl) (by kernel_rfl) (by kernel_rfl) (fun _ _ _ h => h) (Or.inl ⟨by rfl, ?_⟩) (by assumption) ?_
          rotate_left
          · (intro W hSw; (try dsimp only at hSw); go_simp; try with_reducible rfl)
          simp only [Act.put, List.getElem_toArray, List.getElem_cons_succ, List.getElem_cons_zero, List.setIfInBounds_toArray, List.set_cons_zero, List.set_cons_succ]
          refine wpAnyH_take (i := 14) (v := ?_) rfl (by kernel_rfl) (by kernel_rfl) (by kernel_rfl) (fun _ _ _ h => h) (Or.inl ⟨by rfl, ?_⟩) (by assumption) ?_
          rotate_left
          · (intro W hSw; (try dsimp only at hSw); go_simp; try with_reducible rfl)
          simp only [Act.put, List.getElem_toArray, List.getElem_cons_succ, List.getElem_cons_zero, List.setIfInBounds_toArray, List.set_cons_zero, List.set_cons_succ]
          refine wpAnyH_take (i := 15) (v := ?_) rfl (by kernel_rfl) (by kernel_rfl) (by kernel_rfl) (fun _ _ _ h => h) (Or.inl ⟨by rfl, ?_⟩) (by assumption) ?_
          rotate_left
          · (intro W hSw; (try dsimp only at hSw); go_simp; try with_reducible rfl)
          simp only [Act.put, List.getElem_toArray, List.getElem_cons_succ, List.getElem_cons_zero, List.setIfInBounds_toArray, List.set_cons_zero, List.set_cons_succ]
          refine wpAnyH_take (i := 16) (v := ?_) rfl (by kernel_rfl) (by kernel_rfl) (by kernel_rfl) (fun _ _ _ h => h) (Or.inl ⟨by rfl, ?_⟩) (by assumption) ?_
          rotate_left
          · (intro W hSw; (try dsimp only at hSw); go_simp; try with_reducible rfl)
          simp only [Act.put, List.getElem_toArray, List.getElem_cons_succ, List.getElem_cons_zero, List.setIfInBounds_toArray, List.set_cons_zero, List.set_cons_succ]
          refine wpAnyH_take (i := 17) (v := ?_) rfl (by kernel_rfl) (by kernel_rfl) (by kernel_rfl) (fun _ _ _ h => h) (Or.inl ⟨by rfl, ?_⟩) (by assumption) ?_
          rotate_left
          · (intro W hSw; (try dsimp only at hSw); go_simp; try with_reducible rfl)
          simp only [Act.put, List.getElem_toArray, List.getElem_cons_succ, List.getElem_cons_zero, List.setIfInBounds_toArray, List.set_cons_zero, List.set_cons_succ]
          refine wpAnyH_take (i := 18) (v := ?_) rfl (by kernel_rfl) (by kernel_rfl) (by kernel_rfl) (fun _ _ _ h => h) (Or.inl ⟨by rfl, ?_⟩) (by assumption) ?_
          rotate_left
          · (intro W hSw; (try dsimp only at hSw); go_simp; try with_reducible rfl)
          simp only [Act.put, List.getElem_toArray, List.getElem_cons_succ, List.getElem_cons_zero, List.setIfInBounds_toArray, List.set_cons_zero, List.set_cons_succ]
          refine wpAnyH_take (i := 20) (v := ?_) rfl (by kernel_rfl) (by kernel_rfl) (by kernel_rfl) (fun _ _ _ h => h) (Or.inl ⟨by rfl, ?_⟩) (by assumption) ?_
          rotate_left
          · (intro W hSw; (try dsimp only at hSw); go_simp; try with_reducible rfl)
          simp only [Act.put, List.getElem_toArray, List.getElem_cons_succ, List.getElem_cons_zero, List.setIfInBounds_toArray, List.set_cons_zero, List.set_cons_succ]
          refine wpAnyH_take (i := 21) (v := ?_) rfl (by kernel_rfl) (by kernel_rfl) (by kernel_rfl) (fun _ _ _ h => h) (Or.inl ⟨by rfl, ?_⟩) (by assumption) ?_
          rotate_left
          · (intro W hSw; (try dsimp only at hSw); go_simp; try with_reducible rfl)
          simp only [Act.put, List.getElem_toArray, List.getElem_cons_succ, List.getElem_cons_zero, List.setIfInBounds_toArray, List.set_cons_zero, List.set_cons_succ]
          refine wpAnyH_take (i := 23) (v := ?_) rfl (by kernel_rfl) (by kernel_rfl) (by kernel_rfl) (fun _ _ _ h => h) (Or.inl ⟨by rfl, ?_⟩) (by assumption) ?_
          rotate_left
          · (intro W hSw; (try dsimp only at hSw); go_simp; try with_reducible rfl)
          simp only [Act.put, List.getElem_toArray, List.getElem_cons_succ, List.getElem_cons_zero, List.setIfInBounds_toArray, List.set_cons_zero, List.set_cons_succ]
          refine wpAnyH_ready (rs := [19]) (by kernel_rfl) (by simp) ?_
          refine AllReadyH.cons rfl (fun K hK => ?_) AllReadyH.nil
          go_simp
          (with_reducible refine (P1.out _).mono ?_); rintro e w' ⟨rfl, hb'⟩; have hs' := HKEEP.out _ _ hHeld hb'; clear hHeld hb'
          refine hK.out _ _ hs' (fun hHeld => ?_)
          clear hK K hs'
          refine wpAnyH_ready (rs := [22]) (by kernel_rfl) (by simp) ?_
          refine AllReadyH.cons rfl (fun K hK => ?_) AllReadyH.nil
          go_simp
          (with_reducible refine (P2.out _).mono ?_); rintro e w' ⟨rfl, hb'⟩; have hs' := HKEEP.out _ _ hHeld hb'; clear hHeld hb'
          refine hK.out _ _ hs' (fun hHeld => ?_)
          clear hK K hs'
          refine wpAnyH_take (i := 24) (v := ?_) rfl (by kernel_rfl) (by kernel_rfl) (by kernel_rfl) (fun _ _ _ h => h) (Or.inl ⟨by rfl, ?_⟩) (by assumption) ?_
          rotate_left
          · (intro W hSw; (try dsimp only at hSw); go_simp; try with_reducible rfl)
          simp only [Act.put, List.getElem_toArray, List.getElem_cons_succ, List.getElem_cons_zero, List.setIfInBounds_toArray, List.set_cons_zero, List.set_cons_succ]
          refine wpAnyH_take (i := 25) (v := ?_) rfl (by kernel_rfl) (by kernel_rfl) (by kernel_rfl) (fun _ _ _ h => h) (Or.inl ⟨by rfl, ?_⟩) (by assumption) ?_
          rotate_left
          · (intro W hSw; (try dsimp only at hSw); go_simp; try with_reducible rfl)
          simp only [Act.put, List.getElem_toArray, List.getElem_cons_succ, List.getElem_cons_zero, List.setIfInBounds_toArray, List.set_cons_zero, List.set_cons_succ]
          refine wpAnyH_done (by kernel_rfl) ?_ _
          have hM := hHeld.2.2.2.2.2.2.2.2.out
          clear hHeld
          go_wp2
          go_meet
          exact ⟨rfl, hM⟩
      case rest =>
        obtain ⟨rfl, hA⟩ := hcut
        have K5 := Lib.hid hA.out
        clear hA K4
        go_upto_region 11 with fail
        go_cut [114] (fun t wx => t = .bool false ∧ Aside (Me w wx r c false W H T E O []))
        case first =>
          have u0 := K5.out.2.1.c0
          have u1 := K5.out.2.1.c1
          have m0 := K5.out.2.2.1.c0
          have m2 := K5.out.2.2.1.c2
          have m3 := K5.out.2.2.1.c3
          have key : (¬ c + k < W) ∨ (c + k < W) := by omega
          rcases key with h1 | h1
          · have b1 : decide (c + k < W) = false := by simpa using h1
            go_quiet (fail)
            go_wp2
            go_meet
            exact ⟨rfl, below_drewN K5.out.1 nq, K5.out.2.1, K5.out.2.2.1, fun _ h => by cases h⟩
          · have b1 : decide (c + k < W) = true := by simpa using h1
            have e1 : riCol W c k = c + k := by unfold riCol lim; omega
            have e2 : riCol W (c + k) (-k) = c := by unfold riCol lim; omega
            have P1 := Lib.hid (G3.out k c)
            rw [HLC.out, e1] at P1
            have P2 := Lib.hid (G3.out (-k) (c + k))
            rw [lim_in (c + k) 0 (W - 1) (by omega) (by omega), e2] at P2
            clear e1 e2 h1
            have hS := HKEY.out _ (K5.out.below (Below.refl _ _).drew)
            clear u0 u1 m0 m2 m3
            refine wp_region_held_drew (S := fun U => U.cell? ⟨w.heap.size, 0, none⟩ = some (.int .i64 r) ∧ U.cell? ⟨w.heap.size, 1, none⟩ = some (.int .i64 c) ∧ U.cell? ⟨w.heap.size, 2, none⟩ = some (.bool false) ∧ U.cell? ⟨w.heap.size + 1, 0, none⟩ = some (.int .i64 W) ∧ U.cell? ⟨w.heap.size + 1, 1, none⟩ = some (.int .i64 H) ∧ U.cell? ⟨w.heap.size + 1, 2, none⟩ = some (.int .i64 T) ∧ U.cell? ⟨w.heap.size + 1, 3, none⟩ = some (.int .i64 E) ∧ U.cell? ⟨w.heap.size + 1, 4, none⟩ = some (.bool O) ∧ Aside (Me w U r c false W H T E O [])) (by kernel_rfl) hS (fun hHeld => ?_)
            clear hS
            refine wpAnyH_take (i := 0) (v := ?_) rfl (by kernel_rfl) (by kernel_rfl) (by kernel_rfl) (fun _ _ _ h => h) (Or.inl ⟨by rfl, ?_⟩) (by assumption) ?_
            rotate_left
            · (intro W hSw; (try dsimp only at hSw); go_simp; try with_reducible rfl)
            simp only [Act.put, List.getElem_toArray, List.getElem_cons_zero, List.setIfInBounds_toArray, List.set_cons_zero, List.set_cons_succ]
            refine wpAnyH_take (i := 1) (v := ?_) rfl (by kernel_rfl) (by kernel_rfl) (by kernel_rfl) (fun _ _ _ h => h) (Or.inl ⟨by rfl, ?_⟩) (by assumption) ?_
            rotate_left
            · (intro W hSw; (try dsimp only at hSw); go_simp; try with_reducible rfl)
            simp only [Act.put, List.getElem_toArray, List.getElem_cons_succ, List.getElem_cons_zero, List.setIfInBounds_toArray, List.set_cons_zero, List.set_cons_succ]
            refine wpAnyH_take (i := 2) (v := ?_) rfl (by kernel_rfl) (by kernel_rfl) (by kernel_rfl) (fun _ _ _ h => h) (Or.inl ⟨by rfl, ?_⟩) (by assumption) ?_
            rotate_left
            · (intro W hSw; (try dsimp only at hSw); go_simp; try with_reducible rfl)
            simp only [Act.put, List.getElem_toArray, List.getElem_cons_succ, List.getElem_cons_zero, List.setIfInBounds_toArray, List.set_cons_zero, List.set_cons_succ]
            refine wpAnyH_take (i := 3) (v := ?_) rfl (by kernel_rfl) (by kernel_rfl) (by kernel_rfl) (fun _ _ _ h => h) (Or.inl ⟨by rfl, ?_⟩) (by assumption) ?_
            rotate_left
            · (intro W hSw; (try dsimp only at hSw); go_simp; try with_reducible rfl)
            simp only [Act.put, List.getElem_toArray, List.getElem_cons_succ, List.getElem_cons_zero, List.setIfInBounds_toArray, List.set_cons_zero, List.set_cons_succ]
            refine wpAnyH_take (i := 4) (v := ?_) rfl (by kernel_rfl) (by kernel_rfl) (by kernel_rfl) (fun _ _ _ h => h) (Or.inl ⟨by rfl, ?_⟩) (by assumption) ?_
            rotate_left
            · (intro W hSw; (try dsimp only at hSw); go_simp; try with_reducible rfl)
            simp only [Act.put, List.getElem_toArray, List.getElem_cons_succ, List.getElem_cons_zero, List.setIfInBounds_toArray, List.set_cons_zero, List.set_cons_succ]
            refine wpAnyH_take (i := 5) (v := ?_) rfl (by kernel_rfl) (by kernel_rfl) (by kernel_rfl) (fun _ _ _ h => h) (Or.inl ⟨by rfl, ?_⟩) (by assumption) ?_
            rotate_left
            · (intro W hSw; (try dsimp only at hSw); go_simp; try with_reducible rfl)
            simp only [Act.put, List.getElem_toArray, List.getElem_cons_succ, List.getElem_cons_zero, List.setIfInBounds_toArray, List.set_cons_zero, List.set_cons_succ]
            refine wpAnyH_take (i := 6) (v := ?_) rfl (by kernel_rfl) (by kernel_rfl) (by kernel_rfl) (fun _ _ _ h => h) (Or.inl ⟨by rfl, ?_⟩) (by assumption) ?_
            rotate_left
            · (intro W hSw; (try dsimp only at hSw); go_simp; try with_reducible rfl)
            simp only [Act.put, List.getElem_toArray, List.getElem_cons_succ, List.getElem_cons_zero, List.setIfInBounds_toArray, List.set_cons_zero, List.set_cons_succ]
            refine wpAnyH_take (i := 7) (v := ?_) rfl (by kernel_rfl) (by kernel_rfl) (by kernel_rfl) (fun _ _ _ h => h) (Or.inl ⟨by rfl, ?_⟩) (by assumption) ?_
            rotate_left
            · (intro W hSw; (try dsimp only at hSw); go_simp; try with_reducible rfl)
            simp only [Act.put, List.getElem_toArray, List.getElem_cons_succ, List.getElem_cons_zero, List.setIfInBounds_toArray, List.set_cons_zero, List.set_cons_succ]
            refine wpAnyH_take (i := 8) (v := ?_) rfl (by kernel_rfl) (by kernel_rfl) (by kernel_rfl) (fun _ _ _ h => h) (Or.inl ⟨by rfl, ?_⟩) (by assumption) ?_
            rotate_left
            · (intro W hSw; (try dsimp only at hSw); go_simp; try with_reducible rfl)
            simp only [Act.put, List.getElem_toArray, List.getElem_cons_succ, List.getElem_cons_zero, List.setIfInBounds_toArray, List.set_cons_zero, List.set_cons_succ]
            refine wpAnyH_take (i := 9) (v := ?_) rfl (by kernel_rfl) (by kernel_rfl) (by kernel_rfl) (fun _ _ _ h => h) (Or.inl ⟨by rfl, ?_⟩) (by assumption) ?_
            rotate_left
            · (intro W hSw; (try dsimp only at hSw); go_simp; try with_reducible rfl)
            simp only [Act.put, List.getElem_toArray, List.getElem_cons_succ, List.getElem_cons_zero, List.setIfInBounds_toArray, List.set_cons_zero, List.set_cons_succ]
            refine wpAnyH_take (i := 10) (v := ?_) rfl (by kernel_rfl) (by kernel_rfl) (by kernel_rfl) (fun _ _ _ h => h) (Or.inl ⟨by rfl, ?_⟩) (by assumption) ?_
            rotate_left
            · (intro W hSw; (try dsimp only at hSw); go_simp; try with_reducible rfl)
            simp only [Act.put, List.getElem_toArray, List.getElem_cons_succ, List.getElem_cons_zero, List.setIfInBounds_toArray, List.set_cons_zero, List.set_cons_succ]
            refine wpAnyH_take (i := 12) (v := ?_) rfl (by kernel_rfl) (by kernel_rfl) (by kernel_rfl) (fun _ _ _ h => h) (Or.inl ⟨by rfl, ?_⟩) (by assumption) ?_
            rotate_left
            · (intro W hSw; (try dsimp only at hSw); go_simp; try with_reducible rfl)
            simp only [Act.put, List.getElem_toArray, List.getElem_cons_succ, List.getElem_cons_zero, List.setIfInBounds_toArray, List.set_cons_zero, List.set_cons_succ]
            refine wpAnyH_take (i := 13) (v := ?_) rfl (by kernel_rfl) (by kernel_rfl) (by kernel_rfl) (fun _ _ _ h => h) (Or.inl ⟨by rfl, ?_⟩) (by assumption) ?_
            rotate_left
            · (intro W hSw; (try dsimp only at hSw); go_simp; try with_reducible rfl)
            simp only [Act.put, List.getElem_toArray, List.getElem_cons_succ, List.getElem_cons_zero, List.setIfInBounds_toArray, List.set_cons_zero, List.set_cons_succ]
            refine wpAnyH_take (i := 14) (v := ?_) rfl (by kernel_rfl) (by kernel_rfl) (by kernel_rfl) (fun _ _ _ h => h) (Or.inl ⟨by rfl, ?_⟩) (by assumption) ?_
            rotate_left
            · (intro W hSw; (try dsimp only at hSw); go_simp; try with_reducible rfl)
            simp only [Act.put, List.getElem_toArray, List.getElem_cons_succ, List.getElem_cons_zero, List.setIfInBounds_toArray, List.set_cons_zero, List.set_cons_succ]
            refine wpAnyH_take (i := 16) (v := ?_) rfl (by kernel_rfl) (by kernel_rfl) (by kernel_rfl) (fun _ _ _ h => h) (Or.inl ⟨by rfl, ?_⟩) (by assumption) ?_
            rotate_left
            · (intro W hSw; (try dsimp only at hSw); go_simp; try with_reducible rfl)
            simp only [Act.put, List.getElem_toArray, List.getElem_cons_succ, List.getElem_cons_zero, List.setIfInBounds_toArray, List.set_cons_zero, List.set_cons_succ]
            refine wpAnyH_ready (rs := [11]) (by kernel_rfl) (by simp) ?_
            refine AllReadyH.cons rfl (fun K hK => ?_) AllReadyH.nil
            go_simp
            (with_reducible refine (P1.out _).mono ?_); rintro e w' ⟨rfl, hb'⟩; have hs' := HKEEP.out _ _ hHeld hb'; clear hHeld hb'
            refine hK.out _ _ hs' (fun hHeld => ?_)
            clear hK K hs'
            refine wpAnyH_ready (rs := [15]) (by kernel_rfl) (by simp) ?_
            refine AllReadyH.cons rfl (fun K hK => ?_) AllReadyH.nil
            go_simp
            (with_reducible refine (P2.out _).mono ?_); rintro e w' ⟨rfl, hb'⟩; have hs' := HKEEP.out _ _ hHeld hb'; clear hHeld hb'
            refine hK.out _ _ hs' (fun hHeld => ?_)
            clear hK K hs'
            refine wpAnyH_take (i := 17) (v := ?_) rfl (by kernel_rfl) (by kernel_rfl) (by kernel_rfl) (fun _ _ _ h => h) (Or.inl ⟨by rfl, ?_⟩) (by assumption) ?_
            rotate_left
            · (intro W hSw; (try dsimp only at hSw); go_simp; try with_reducible rfl)
            simp only [Act.put, List.getElem_toArray, List.getElem_cons_succ, List.getElem_cons_zero, List.setIfInBounds_toArray, List.set_cons_zero, List.set_cons_succ]
            refine wpAnyH_take (i := 18) (v := ?_) rfl (by kernel_rfl) (by kernel_rfl) (by kernel_rfl) (fun _ _ _ h => h) (Or.inl ⟨by rfl, ?_⟩) (by assumption) ?_
            rotate_left
            · (intro W hSw; (try dsimp only at hSw); go_simp; try with_reducible rfl)
            simp only [Act.put, List.getElem_toArray, List.getElem_cons_succ, List.getElem_cons_zero, List.setIfInBounds_toArray, List.set_cons_zero, List.set_cons_succ]
            refine wpAnyH_done (by kernel_rfl) ?_ _
            have hM := hHeld.2.2.2.2.2.2.2.2.out
            clear hHeld
            go_wp2
            go_meet
            exact ⟨rfl, hM⟩
        case rest =>
          obtain ⟨rfl, hA⟩ := hcut
          have K6 := Lib.hid hA.out
          clear hA K5
          go_wp2_with fail
          refine (awake_any _).mono ?_
          rintro e w9 ⟨rfl, b9⟩
          go_wp2
          go_ret
          exact ⟨rfl, (K6.out.below b9).1⟩

set_option maxHeartbeats 1000000 in
set_option maxRecDepth 100000 in
theorem returns_walk (r c : Int) (p : Bool) (W H T E : Int) (O : Bool) (n : Int) (w : World) (x0 : 0 ≤ n) (x1 : n ≤ 255) :
    Calls Try.prog 9 #[.agg #[.int .i64 r, .int .i64 c, .bool p], .agg #[.int .i64 W, .int .i64 H, .int .i64 T, .int .i64 E, .bool O], .int .u8 n] w fun e w' => e = .returned (.bool true) ∧ Below w.heap.size w w' := by
  have HK := Lib.hid (Me.start w r c W H T E O p)
  by_cases h : Ok W H T E
  · by_cases hin : 0 ≤ r ∧ r < H ∧ 0 ≤ c ∧ c < W ∧ p = false
    · obtain ⟨g1, g2, g3, g4, rfl⟩ := hin
      exact returns_main r c W H T E O n w h g1 g2 g3 g4 x0 x1
    · have CK := Lib.hid (fun w => check_yes W H T E O h w)
      have CI := Lib.hid (fun w => inside_no r c W H T E O p hin w)
      clear h hin
      go_enter Try.func9, Try.ntmps9
      go_wp2_with fail
      refine (CK.out _).mono ?_
      rintro e w1 ⟨rfl, b5⟩
      have K := Lib.hid (HK.out _ b5)
      have u0 := K.out.2.1.c0
      have u1 := K.out.2.1.c1
      have u2 := K.out.2.1.c2
      have m0 := K.out.2.2.1.c0
      have m1 := K.out.2.2.1.c1
      have m2 := K.out.2.2.1.c2
      have m3 := K.out.2.2.1.c3
      have m4 := K.out.2.2.1.c4
      go_wp2_with fail
      refine (CI.out _).mono ?_
      rintro e w2 ⟨rfl, b2⟩
      have K2 := Lib.hid (K.out.below b2)
      clear u0 u1 u2 m0 m1 m2 m3 m4
      go_wp2_with fail
      refine (awake_any _).mono ?_
      rintro e w3 ⟨rfl, b3⟩
      go_wp2
      go_ret
      exact ⟨rfl, (K2.out.below b3).1⟩
  · have CK := Lib.hid (fun w => check_no W H T E O h w)
    clear h
    go_enter Try.func9, Try.ntmps9
    go_wp2_with fail
    refine (CK.out _).mono ?_
    rintro e w1 ⟨rfl, b5⟩
    have K := Lib.hid (HK.out _ b5)
    go_wp2_with fail
    refine (awake_any _).mono ?_
    rintro e w2 ⟨rfl, b2⟩
    go_wp2
    go_ret
    exact ⟨rfl, (K.out.below b2).1⟩

end Go.Proofs.Yteenjjiobibokaa
