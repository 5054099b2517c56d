/-
  The statement of layer 10 on two movements in the same direction: the walk.
-/
import Derived.Test.YteenjjiobibokaaCuMem
import Derived.Deep.RegionHeld3
namespace Go.Proofs.Yteenjjiobibokaa
open Go.RowKit Cu

set_option maxHeartbeats 8000000 in
set_option maxRecDepth 100000 in
theorem additive_main (r c : Int) (p : Bool) (W H T E : Int) (O : Bool) (m n : Int) (q : Bool) (w : World) (h : Ok W H T E) (hr : reg T E r = true) (x0 : 0 ≤ m) (x1 : m ≤ 255) (y0 : 0 ≤ n) (y1 : n ≤ 255) :
    Calls Try.prog 8 #[.agg #[.int .i64 r, .int .i64 c, .bool p], .agg #[.int .i64 W, .int .i64 H, .int .i64 T, .int .i64 E, .bool O], .int .u8 m, .int .u8 n, .bool q] w fun e w' => e = .returned (.bool true) ∧ Below w.heap.size w w' := by
  have eq1 := Try.stoodInHeld23
  have eq2 := Try.eqGuardType23
  have CK := Lib.hid (fun w => check_yes W H T E O h w)
  have G1 := Lib.hid (fun r c n p w => right_ok W H T E r c n O p h w)
  have G2 := Lib.hid (fun r c n p w => up_ok W H T E r c n O p h w)
  have G3 := Lib.hid awake_any
  have hin := reg_true.1 hr
  obtain ⟨i, hi⟩ : ∃ i, (if q = true then -m else m) = i := ⟨_, rfl⟩
  obtain ⟨k, hk⟩ : ∃ k, (if q = true then -n else n) = k := ⟨_, rfl⟩
  have hs : (0 ≤ i ∧ 0 ≤ k) ∨ (i ≤ 0 ∧ k ≤ 0) := by
    rw [← hi, ← hk]
    cases q <;> simp <;> omega
  have i0 : -255 ≤ i ∧ i ≤ 255 := by rw [← hi]; split <;> omega
  have k0 : -255 ≤ k ∧ k ≤ 255 := by rw [← hk]; split <;> omega
  have hW1 : (0 : Int) ≤ W - 1 := by unfold Ok at h; omega
  have hH1 : (0 : Int) ≤ H - 1 := by unfold Ok at h; omega
  have lr : lim r 0 (H - 1) = r := lim_in _ _ _ (by unfold Ok at h; omega) (by unfold Ok at h; omega)
  have e1 : (lim (lim r 0 (H - 1)) 0 (H - 1) == lim r 0 (H - 1)) = true := by rw [lr, lr]; simp
  have e2 : (riCol W (lim (riCol W (lim c 0 (W - 1)) i) 0 (W - 1)) k == riCol W (lim c 0 (W - 1)) (i + k)) = true := by
    rw [lim_in _ _ _ (ri_in h _ _).1 (ri_in h _ _).2, ri_add h _ _ _ (lim_ge _ _ _) (lim_le _ _ _ hW1) hs]
    simp
  have e3 : (upRow H T E (lim (upRow H T E (lim r 0 (H - 1)) i) 0 (H - 1)) k == upRow H T E (lim r 0 (H - 1)) (i + k)) = true := by
    have u := up_in h r i (by unfold Ok at h; omega) (by unfold Ok at h; omega)
    rw [lr, lim_in _ _ _ u.1 u.2, up_add h _ _ _ hr hs]
    simp
  have e4 : (lim (lim c 0 (W - 1)) 0 (W - 1) == lim c 0 (W - 1)) = true := by
    rw [lim_in _ _ _ (lim_ge _ _ _) (lim_le _ _ _ hW1)]
    simp
  have e5 : (false == false) = true := rfl
  have wik : IntKind.i64.wrap (i + k) = i + k := by rw [IntKind.wrap_i64]; omega
  have HI := Lib.hid hi
  have HK2 := Lib.hid hk
  have b1 : decide (r < T) = false := by simp; omega
  have b2 : decide (E ≤ r) = false := by simp; omega
  have b3 : ¬ r < T := by omega
  have b4 : ¬ E ≤ r := by omega
  have HK := Lib.hid (Me.start w r c W H T E O p)
  clear lr hW1 hH1 hs hin hr h hi hk
  go_enter Try.func8, Try.ntmps8
  go_wp2_with fail
  refine (CK.out _).mono ?_
  rintro e w1 ⟨rfl, b5⟩
  have K := Lib.hid (HK.out _ b5)
  clear b5 CK HK
  have u0 := K.out.2.1.c0
  have m2 := K.out.2.2.1.c2
  have m3 := K.out.2.2.1.c3
  go_upto_if 35 with fail
  go_cut [11, 12] (fun a b wx => a = .int .i64 i ∧ b = .int .i64 k ∧ w1 = wx)
  case first =>
    cases q with
    | true =>
      have hi := HI.out
      have hk := HK2.out
      simp only [if_true] at hi hk
      subst hi hk
      go_wp2
      go_meet
      exact ⟨rfl, rfl, rfl⟩
    | false =>
      have hi := HI.out
      have hk := HK2.out
      simp only [Bool.false_eq_true, if_false] at hi hk
      subst hi hk
      go_wp2
      go_meet
      exact ⟨rfl, rfl, rfl⟩
  case rest =>
    obtain ⟨rfl, rfl, rfl⟩ := hcut
    clear u0 m2 m3 b1 b2 b3 b4 HI HK2
    have key0 : ∀ U, Me w U r c p W H T E O [] → (U.cell? ⟨w.heap.size, 0, none⟩ = some (.int .i64 r) ∧ U.cell? ⟨w.heap.size, 1, none⟩ = some (.int .i64 c) ∧ U.cell? ⟨w.heap.size, 2, none⟩ = some (.bool p) ∧ U.cell? ⟨w.heap.size + 1, 0, none⟩ = some (.int .i64 W) ∧ U.cell? ⟨w.heap.size + 1, 1, none⟩ = some (.int .i64 H) ∧ U.cell? ⟨w.heap.size + 1, 2, none⟩ = some (.int .i64 T) ∧ U.cell? ⟨w.heap.size + 1, 3, none⟩ = some (.int .i64 E) ∧ U.cell? ⟨w.heap.size + 1, 4, none⟩ = some (.bool O) ∧ Aside (Me w U r c p W H T E O [])) := fun U k => ⟨k.2.1.c0, k.2.1.c1, k.2.1.c2, k.2.2.1.c0, k.2.2.1.c1, k.2.2.1.c2, k.2.2.1.c3, k.2.2.1.c4, k⟩
    have HKEEP : Hid (∀ (U U' : World), (U.cell? ⟨w.heap.size, 0, none⟩ = some (.int .i64 r) ∧ U.cell? ⟨w.heap.size, 1, none⟩ = some (.int .i64 c) ∧ U.cell? ⟨w.heap.size, 2, none⟩ = some (.bool p) ∧ U.cell? ⟨w.heap.size + 1, 0, none⟩ = some (.int .i64 W) ∧ U.cell? ⟨w.heap.size + 1, 1, none⟩ = some (.int .i64 H) ∧ U.cell? ⟨w.heap.size + 1, 2, none⟩ = some (.int .i64 T) ∧ U.cell? ⟨w.heap.size + 1, 3, none⟩ = some (.int .i64 E) ∧ U.cell? ⟨w.heap.size + 1, 4, none⟩ = some (.bool O) ∧ Aside (Me w U r c p W H T E O [])) → Below U.heap.size U U' → (U'.cell? ⟨w.heap.size, 0, none⟩ = some (.int .i64 r) ∧ U'.cell? ⟨w.heap.size, 1, none⟩ = some (.int .i64 c) ∧ U'.cell? ⟨w.heap.size, 2, none⟩ = some (.bool p) ∧ U'.cell? ⟨w.heap.size + 1, 0, none⟩ = some (.int .i64 W) ∧ U'.cell? ⟨w.heap.size + 1, 1, none⟩ = some (.int .i64 H) ∧ U'.cell? ⟨w.heap.size + 1, 2, none⟩ = some (.int .i64 T) ∧ U'.cell? ⟨w.heap.size + 1, 3, none⟩ = some (.int .i64 E) ∧ U'.cell? ⟨w.heap.size + 1, 4, none⟩ = some (.bool O) ∧ Aside (Me w U' r c p W H T E O []))) := Lib.hid (fun U U' hs hu => key0 U' (hs.2.2.2.2.2.2.2.2.out.below hu))
    have hS := key0 w1.drew (K.out.below (Below.refl _ _).drew)
    clear key0 K
    go_wp2_with fail
    refine wp_region_held_drew (S := fun U => U.cell? ⟨w.heap.size, 0, none⟩ = some (.int .i64 r) ∧ U.cell? ⟨w.heap.size, 1, none⟩ = some (.int .i64 c) ∧ U.cell? ⟨w.heap.size, 2, none⟩ = some (.bool p) ∧ U.cell? ⟨w.heap.size + 1, 0, none⟩ = some (.int .i64 W) ∧ U.cell? ⟨w.heap.size + 1, 1, none⟩ = some (.int .i64 H) ∧ U.cell? ⟨w.heap.size + 1, 2, none⟩ = some (.int .i64 T) ∧ U.cell? ⟨w.heap.size + 1, 3, none⟩ = some (.int .i64 E) ∧ U.cell? ⟨w.heap.size + 1, 4, none⟩ = some (.bool O) ∧ Aside (Me w U r c p W H T E O [])) (by kernel_rfl) hS (fun hHeld => ?_)
    clear hS
    refine wpAnyH_take (i := 0) (v := ?_) rfl (by kernel_rfl) (by kernel_rfl) (by kernel_rfl) (fun _ _ _ h => h) (Or.inl ⟨by rfl, ?_⟩) (by assumption) ?_
    rotate_left
    · (intro W hSw; (try dsimp only at hSw); go_simp; try with_reducible rfl)
    simp only [Act.put, List.getElem_toArray, List.getElem_cons_zero, List.setIfInBounds_toArray, List.set_cons_zero, List.set_cons_succ]
    refine wpAnyH_take (i := 1) (v := ?_) rfl (by kernel_rfl) (by kernel_rfl) (by kernel_rfl) (fun _ _ _ h => h) (Or.inl ⟨by rfl, ?_⟩) (by assumption) ?_
    rotate_left
    · (intro W hSw; (try dsimp only at hSw); go_simp; try with_reducible rfl)
    simp only [Act.put, List.getElem_toArray, List.getElem_cons_succ, List.getElem_cons_zero, List.setIfInBounds_toArray, List.set_cons_zero, List.set_cons_succ]
    refine wpAnyH_take (i := 2) (v := ?_) rfl (by kernel_rfl) (by kernel_rfl) (by kernel_rfl) (fun _ _ _ h => h) (Or.inl ⟨by rfl, ?_⟩) (by assumption) ?_
    rotate_left
    · (intro W hSw; (try dsimp only at hSw); go_simp; try with_reducible rfl)
    simp only [Act.put, List.getElem_toArray, List.getElem_cons_succ, List.getElem_cons_zero, List.setIfInBounds_toArray, List.set_cons_zero, List.set_cons_succ]
    refine wpAnyH_take (i := 4) (v := ?_) rfl (by kernel_rfl) (by kernel_rfl) (by kernel_rfl) (fun _ _ _ h => h) (Or.inl ⟨by rfl, ?_⟩) (by assumption) ?_
    rotate_left
    · (intro W hSw; (try dsimp only at hSw); go_simp; try with_reducible rfl)
    simp only [Act.put, List.getElem_toArray, List.getElem_cons_succ, List.getElem_cons_zero, List.setIfInBounds_toArray, List.set_cons_zero, List.set_cons_succ]
    refine wpAnyH_take (i := 5) (v := ?_) rfl (by kernel_rfl) (by kernel_rfl) (by kernel_rfl) (fun _ _ _ h => h) (Or.inl ⟨by rfl, ?_⟩) (by assumption) ?_
    rotate_left
    · (intro W hSw; (try dsimp only at hSw); go_simp; try with_reducible rfl)
    simp only [Act.put, List.getElem_toArray, List.getElem_cons_succ, List.getElem_cons_zero, List.setIfInBounds_toArray, List.set_cons_zero, List.set_cons_succ]
    refine wpAnyH_take (i := 7) (v := ?_) rfl (by kernel_rfl) (by kernel_rfl) (by kernel_rfl) (fun _ _ _ h => h) (Or.inl ⟨by rfl, ?_⟩) (by assumption) ?_
    rotate_left
    · (intro W hSw; (try dsimp only at hSw); go_simp; try with_reducible rfl)
    simp only [Act.put, List.getElem_toArray, List.getElem_cons_succ, List.getElem_cons_zero, List.setIfInBounds_toArray, List.set_cons_zero, List.set_cons_succ]
    refine wpAnyH_take (i := 8) (v := ?_) rfl (by kernel_rfl) (by kernel_rfl) (by kernel_rfl) (fun _ _ _ h => h) (Or.inl ⟨by rfl, ?_⟩) (by assumption) ?_
    rotate_left
    · (intro W hSw; (try dsimp only at hSw); go_simp; try with_reducible rfl)
    simp only [Act.put, List.getElem_toArray, List.getElem_cons_succ, List.getElem_cons_zero, List.setIfInBounds_toArray, List.set_cons_zero, List.set_cons_succ]
    refine wpAnyH_take (i := 9) (v := ?_) rfl (by kernel_rfl) (by kernel_rfl) (by kernel_rfl) (fun _ _ _ h => h) (Or.inl ⟨by rfl, ?_⟩) (by assumption) ?_
    rotate_left
    · (intro W hSw; (try dsimp only at hSw); go_simp; try with_reducible rfl)
    simp only [Act.put, List.getElem_toArray, List.getElem_cons_succ, List.getElem_cons_zero, List.setIfInBounds_toArray, List.set_cons_zero, List.set_cons_succ]
    refine wpAnyH_take (i := 10) (v := ?_) rfl (by kernel_rfl) (by kernel_rfl) (by kernel_rfl) (fun _ _ _ h => h) (Or.inl ⟨by rfl, ?_⟩) (by assumption) ?_
    rotate_left
    · (intro W hSw; (try dsimp only at hSw); go_simp; try with_reducible rfl)
    simp only [Act.put, List.getElem_toArray, List.getElem_cons_succ, List.getElem_cons_zero, List.setIfInBounds_toArray, List.set_cons_zero, List.set_cons_succ]
    refine wpAnyH_take (i := 11) (v := ?_) rfl (by kernel_rfl) (by kernel_rfl) (by kernel_rfl) (fun _ _ _ h => h) (Or.inl ⟨by rfl, ?_⟩) (by assumption) ?_
    rotate_left
    · (intro W hSw; (try dsimp only at hSw); go_simp; try with_reducible rfl)
    simp only [Act.put, List.getElem_toArray, List.getElem_cons_succ, List.getElem_cons_zero, List.setIfInBounds_toArray, List.set_cons_zero, List.set_cons_succ]
    refine wpAnyH_ready (rs := [3]) (by kernel_rfl) (by simp) ?_
    refine AllReadyH.cons rfl (fun K hK => ?_) AllReadyH.nil
    go_simp
    (with_reducible refine (G1.out _ _ _ _ _).mono ?_); rintro e w' ⟨rfl, hb'⟩; have hs' := HKEEP.out _ _ hHeld hb'; clear hHeld hb'
    refine hK.out _ _ hs' (fun hHeld => ?_)
    clear hK K hs'
    refine wpAnyH_ready (rs := [6]) (by kernel_rfl) (by simp) ?_
    refine AllReadyH.cons rfl (fun K hK => ?_) AllReadyH.nil
    go_simp
    (with_reducible refine (G1.out _ _ _ _ _).mono ?_); rintro e w' ⟨rfl, hb'⟩; have hs' := HKEEP.out _ _ hHeld hb'; clear hHeld hb'
    refine hK.out _ _ hs' (fun hHeld => ?_)
    clear hK K hs'
    refine wpAnyH_ready (rs := [12]) (by kernel_rfl) (by simp) ?_
    refine AllReadyH.cons rfl (fun K hK => ?_) AllReadyH.nil
    go_simp
    (with_reducible refine (G1.out _ _ _ _ _).mono ?_); rintro e w' ⟨rfl, hb'⟩; have hs' := HKEEP.out _ _ hHeld hb'; clear hHeld hb'
    refine hK.out _ _ hs' (fun hHeld => ?_)
    clear hK K hs'
    refine wpAnyH_take (i := 13) (v := ?_) rfl (by kernel_rfl) (by kernel_rfl) (by kernel_rfl) (fun _ _ _ h => h) (Or.inl ⟨by rfl, ?_⟩) (by assumption) ?_
    rotate_left
    · (intro W hSw; (try dsimp only at hSw); go_simp; try with_reducible rfl)
    simp only [Act.put, List.getElem_toArray, List.getElem_cons_succ, List.getElem_cons_zero, List.setIfInBounds_toArray, List.set_cons_zero, List.set_cons_succ]
    refine wpAnyH_take (i := 14) (v := ?_) rfl (by kernel_rfl) (by kernel_rfl) (by kernel_rfl) (fun _ _ _ h => h) (Or.inl ⟨by rfl, ?_⟩) (by assumption) ?_
    rotate_left
    · (intro W hSw; (try dsimp only at hSw); go_simp; try with_reducible rfl)
    simp only [Act.put, List.getElem_toArray, List.getElem_cons_succ, List.getElem_cons_zero, List.setIfInBounds_toArray, List.set_cons_zero, List.set_cons_succ]
    refine wpAnyH_take (i := 15) (v := ?_) rfl (by kernel_rfl) (by kernel_rfl) (by kernel_rfl) (fun _ _ _ h => h) (Or.inl ⟨by rfl, ?_⟩) (by assumption) ?_
    rotate_left
    · (intro W hSw; (try dsimp only at hSw); go_simp; try with_reducible rfl)
    simp only [Act.put, List.getElem_toArray, List.getElem_cons_succ, List.getElem_cons_zero, List.setIfInBounds_toArray, List.set_cons_zero, List.set_cons_succ]
    refine wpAnyH_take (i := 16) (v := ?_) rfl (by kernel_rfl) (by kernel_rfl) (by kernel_rfl) (fun _ _ _ h => h) (Or.inl ⟨by rfl, ?_⟩) (by assumption) ?_
    rotate_left
    · (intro W hSw; (try dsimp only at hSw); go_simp; try with_reducible rfl)
    simp only [Act.put, List.getElem_toArray, List.getElem_cons_succ, List.getElem_cons_zero, List.setIfInBounds_toArray, List.set_cons_zero, List.set_cons_succ]
    refine wpAnyH_take (i := 17) (v := ?_) rfl (by kernel_rfl) (by kernel_rfl) (by kernel_rfl) (fun _ _ _ h => h) (Or.inl ⟨by rfl, ?_⟩) (by assumption) ?_
    rotate_left
    · (intro W hSw; (try dsimp only at hSw); go_simp; try with_reducible rfl)
    simp only [Act.put, List.getElem_toArray, List.getElem_cons_succ, List.getElem_cons_zero, List.setIfInBounds_toArray, List.set_cons_zero, List.set_cons_succ]
    refine wpAnyH_take (i := 19) (v := ?_) rfl (by kernel_rfl) (by kernel_rfl) (by kernel_rfl) (fun _ _ _ h => h) (Or.inl ⟨by rfl, ?_⟩) (by assumption) ?_
    rotate_left
    · (intro W hSw; (try dsimp only at hSw); go_simp; try with_reducible rfl)
    simp only [Act.put, List.getElem_toArray, List.getElem_cons_succ, List.getElem_cons_zero, List.setIfInBounds_toArray, List.set_cons_zero, List.set_cons_succ]
    refine wpAnyH_take (i := 20) (v := ?_) rfl (by kernel_rfl) (by kernel_rfl) (by kernel_rfl) (fun _ _ _ h => h) (Or.inl ⟨by rfl, ?_⟩) (by assumption) ?_
    rotate_left
    · (intro W hSw; (try dsimp only at hSw); go_simp; try with_reducible rfl)
    simp only [Act.put, List.getElem_toArray, List.getElem_cons_succ, List.getElem_cons_zero, List.setIfInBounds_toArray, List.set_cons_zero, List.set_cons_succ]
    refine wpAnyH_take (i := 22) (v := ?_) rfl (by kernel_rfl) (by kernel_rfl) (by kernel_rfl) (fun _ _ _ h => h) (Or.inl ⟨by rfl, ?_⟩) (by assumption) ?_
    rotate_left
    · (intro W hSw; (try dsimp only at hSw); go_simp; try with_reducible rfl)
    simp only [Act.put, List.getElem_toArray, List.getElem_cons_succ, List.getElem_cons_zero, List.setIfInBounds_toArray, List.set_cons_zero, List.set_cons_succ]
    refine wpAnyH_take (i := 23) (v := ?_) rfl (by kernel_rfl) (by kernel_rfl) (by kernel_rfl) (fun _ _ _ h => h) (Or.inl ⟨by rfl, ?_⟩) (by assumption) ?_
    rotate_left
    · (intro W hSw; (try dsimp only at hSw); go_simp; try with_reducible rfl)
    simp only [Act.put, List.getElem_toArray, List.getElem_cons_succ, List.getElem_cons_zero, List.setIfInBounds_toArray, List.set_cons_zero, List.set_cons_succ]
    refine wpAnyH_take (i := 24) (v := ?_) rfl (by kernel_rfl) (by kernel_rfl) (by kernel_rfl) (fun _ _ _ h => h) (Or.inl ⟨by rfl, ?_⟩) (by assumption) ?_
    rotate_left
    · (intro W hSw; (try dsimp only at hSw); go_simp; try with_reducible rfl)
    simp only [Act.put, List.getElem_toArray, List.getElem_cons_succ, List.getElem_cons_zero, List.setIfInBounds_toArray, List.set_cons_zero, List.set_cons_succ]
    refine wpAnyH_take (i := 25) (v := ?_) rfl (by kernel_rfl) (by kernel_rfl) (by kernel_rfl) (fun _ _ _ h => h) (Or.inl ⟨by rfl, ?_⟩) (by assumption) ?_
    rotate_left
    · (intro W hSw; (try dsimp only at hSw); go_simp; try with_reducible rfl)
    simp only [Act.put, List.getElem_toArray, List.getElem_cons_succ, List.getElem_cons_zero, List.setIfInBounds_toArray, List.set_cons_zero, List.set_cons_succ]
    refine wpAnyH_take (i := 26) (v := ?_) rfl (by kernel_rfl) (by kernel_rfl) (by kernel_rfl) (fun _ _ _ h => h) (Or.inl ⟨by rfl, ?_⟩) (by assumption) ?_
    rotate_left
    · (intro W hSw; (try dsimp only at hSw); go_simp; try with_reducible rfl)
    simp only [Act.put, List.getElem_toArray, List.getElem_cons_succ, List.getElem_cons_zero, List.setIfInBounds_toArray, List.set_cons_zero, List.set_cons_succ]
    refine wpAnyH_ready (rs := [18]) (by kernel_rfl) (by simp) ?_
    refine AllReadyH.cons rfl (fun K hK => ?_) AllReadyH.nil
    go_simp
    (with_reducible refine (G2.out _ _ _ _ _).mono ?_); rintro e w' ⟨rfl, hb'⟩; have hs' := HKEEP.out _ _ hHeld hb'; clear hHeld hb'
    refine hK.out _ _ hs' (fun hHeld => ?_)
    clear hK K hs'
    refine wpAnyH_ready (rs := [21]) (by kernel_rfl) (by simp) ?_
    refine AllReadyH.cons rfl (fun K hK => ?_) AllReadyH.nil
    go_simp
    (with_reducible refine (G2.out _ _ _ _ _).mono ?_); rintro e w' ⟨rfl, hb'⟩; have hs' := HKEEP.out _ _ hHeld hb'; clear hHeld hb'
    refine hK.out _ _ hs' (fun hHeld => ?_)
    clear hK K hs'
    refine wpAnyH_ready (rs := [27]) (by kernel_rfl) (by simp) ?_
    refine AllReadyH.cons rfl (fun K hK => ?_) AllReadyH.nil
    go_simp
    (with_reducible refine (G2.out _ _ _ _ _).mono ?_); rintro e w' ⟨rfl, hb'⟩; have hs' := HKEEP.out _ _ hHeld hb'; clear hHeld hb'
    refine hK.out _ _ hs' (fun hHeld => ?_)
    clear hK K hs'
    refine wpAnyH_take (i := 28) (v := ?_) rfl (by kernel_rfl) (by kernel_rfl) (by kernel_rfl) (fun _ _ _ h => h) (Or.inl ⟨by rfl, ?_⟩) (by assumption) ?_
    rotate_left
    · (intro W hSw; (try dsimp only at hSw); go_simp; try with_reducible rfl)
    simp only [Act.put, List.getElem_toArray, List.getElem_cons_succ, List.getElem_cons_zero, List.setIfInBounds_toArray, List.set_cons_zero, List.set_cons_succ]
    refine wpAnyH_take (i := 29) (v := ?_) rfl (by kernel_rfl) (by kernel_rfl) (by kernel_rfl) (fun _ _ _ h => h) (Or.inl ⟨by rfl, ?_⟩) (by assumption) ?_
    rotate_left
    · (intro W hSw; (try dsimp only at hSw); go_simp; try with_reducible rfl)
    simp only [Act.put, List.getElem_toArray, List.getElem_cons_succ, List.getElem_cons_zero, List.setIfInBounds_toArray, List.set_cons_zero, List.set_cons_succ]
    refine wpAnyH_take (i := 30) (v := ?_) rfl (by kernel_rfl) (by kernel_rfl) (by kernel_rfl) (fun _ _ _ h => h) (Or.inl ⟨by rfl, ?_⟩) (by assumption) ?_
    rotate_left
    · (intro W hSw; (try dsimp only at hSw); go_simp; try with_reducible rfl)
    simp only [Act.put, List.getElem_toArray, List.getElem_cons_succ, List.getElem_cons_zero, List.setIfInBounds_toArray, List.set_cons_zero, List.set_cons_succ]
    refine wpAnyH_ready (rs := [31]) (by kernel_rfl) (by simp) ?_
    refine AllReadyH.cons rfl (fun K hK => ?_) AllReadyH.nil
    go_simp
    (with_reducible refine (G3.out _).mono ?_); rintro e w' ⟨rfl, hb'⟩; have hs' := HKEEP.out _ _ hHeld hb'; clear hHeld hb'
    refine hK.out _ _ hs' (fun hHeld => ?_)
    clear hK K hs'
    refine wpAnyH_take (i := 32) (v := ?_) rfl (by kernel_rfl) (by kernel_rfl) (by kernel_rfl) (fun _ _ _ h => h) (Or.inl ⟨by rfl, ?_⟩) (by assumption) ?_
    rotate_left
    · (intro W hSw; (try dsimp only at hSw); go_simp; try with_reducible rfl)
    simp only [Act.put, List.getElem_toArray, List.getElem_cons_succ, List.getElem_cons_zero, List.setIfInBounds_toArray, List.set_cons_zero, List.set_cons_succ]
    refine wpAnyH_take (i := 33) (v := ?_) rfl (by kernel_rfl) (by kernel_rfl) (by kernel_rfl) (fun _ _ _ h => h) (Or.inl ⟨by rfl, ?_⟩) (by assumption) ?_
    rotate_left
    · (intro W hSw; (try dsimp only at hSw); go_simp; try with_reducible rfl)
    simp only [Act.put, List.getElem_toArray, List.getElem_cons_succ, List.getElem_cons_zero, List.setIfInBounds_toArray, List.set_cons_zero, List.set_cons_succ]
    refine wpAnyH_done (by kernel_rfl) ?_ _
    have hB := hHeld.2.2.2.2.2.2.2.2.out.1
    clear hHeld
    go_wp2
    go_ret
    exact ⟨rfl, hB⟩

set_option maxHeartbeats 1000000 in
set_option maxRecDepth 100000 in
theorem additive_walk (r c : Int) (p : Bool) (W H T E : Int) (O : Bool) (m n : Int) (q : Bool) (w : World) (x0 : 0 ≤ m) (x1 : m ≤ 255) (y0 : 0 ≤ n) (y1 : n ≤ 255) :
    Calls Try.prog 8 #[.agg #[.int .i64 r, .int .i64 c, .bool p], .agg #[.int .i64 W, .int .i64 H, .int .i64 T, .int .i64 E, .bool O], .int .u8 m, .int .u8 n, .bool q] w fun e w' => e = .returned (.bool true) ∧ Below w.heap.size w w' := by
  by_cases h : Ok W H T E
  · cases hr : reg T E r with
    | true => exact additive_main r c p W H T E O m n q w h hr x0 x1 y0 y1
    | false =>
      have CK := Lib.hid (fun w => check_yes W H T E O h w)
      have HK := Lib.hid (Me.start w r c W H T E O p)
      have key : (r < T) ∨ (¬ r < T ∧ E ≤ r) := by have := reg_false.1 hr; omega
      clear h hr
      rcases key with h1 | ⟨h1, h2⟩
      all_goals
        go_enter Try.func8, Try.ntmps8
        go_wp2_with fail
        refine (CK.out _).mono ?_
        rintro e w1 ⟨rfl, b5⟩
        have K := Lib.hid (HK.out _ b5)
        have u0 := K.out.2.1.c0
        have m2 := K.out.2.2.1.c2
        have m3 := K.out.2.2.1.c3
        go_wp2_with fail
        refine (awake_any _).mono ?_
        rintro e w2 ⟨rfl, b2⟩
        go_wp2
        go_ret
        exact ⟨rfl, (K.out.below b2).1⟩
  · have CK := Lib.hid (fun w => check_no W H T E O h w)
    have HK := Lib.hid (Me.start w r c W H T E O p)
    clear h
    go_enter Try.func8, Try.ntmps8
    go_wp2_with fail
    refine (CK.out _).mono ?_
    rintro e w1 ⟨rfl, b5⟩
    have K := Lib.hid (HK.out _ b5)
    go_wp2_with fail
    refine (awake_any _).mono ?_
    rintro e w2 ⟨rfl, b2⟩
    go_wp2
    go_ret
    exact ⟨rfl, (K.out.below b2).1⟩

end Go.Proofs.Yteenjjiobibokaa
