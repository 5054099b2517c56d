/-
  The statement of layer 10 on the bounds: the walk where the bounds are proper.
-/
import Derived.Test.YteenjjiobibokaaCuMem
import Derived.Deep.RegionHeld3
namespace Go.Proofs.Yteenjjiobibokaa
open Go.RowKit Cu

set_option maxHeartbeats 8000000 in
set_option maxRecDepth 100000 in
theorem inner_ok (r c : Int) (p : Bool) (W H T E : Int) (O : Bool) (n m R1 C1 R2 C2 R3 C3 R4 C4 R5 C5 N1 N2 : Int) (w : World)
    (h1 : ∀ U, Calls Try.prog 15 #[.agg #[.int .i64 r, .int .i64 c, .bool p], .int .i64 n, .agg #[.int .i64 W, .int .i64 H, .int .i64 T, .int .i64 E, .bool O]] U fun e w' => e = .returned (.agg #[.int .i64 R1, .int .i64 C1, .bool false]) ∧ Below U.heap.size U w')
    (h2 : ∀ U, Calls Try.prog 17 #[.agg #[.int .i64 r, .int .i64 c, .bool p], .int .i64 n, .agg #[.int .i64 W, .int .i64 H, .int .i64 T, .int .i64 E, .bool O]] U fun e w' => e = .returned (.agg #[.int .i64 R2, .int .i64 C2, .bool false]) ∧ Below U.heap.size U w')
    (h3 : ∀ U, Calls Try.prog 19 #[.agg #[.int .i64 r, .int .i64 c, .bool p], .int .i64 n, .int .i64 m, .agg #[.int .i64 W, .int .i64 H, .int .i64 T, .int .i64 E, .bool O]] U fun e w' => e = .returned (.agg #[.int .i64 R3, .int .i64 C3, .bool false]) ∧ Below U.heap.size U w')
    (h4 : ∀ U, Calls Try.prog 22 #[.agg #[.int .i64 r, .int .i64 c, .bool p], .agg #[.int .i64 W, .int .i64 H, .int .i64 T, .int .i64 E, .bool O]] U fun e w' => e = .returned (.tuple #[.agg #[.int .i64 R4, .int .i64 C4, .bool false], .int .i64 N1]) ∧ Below U.heap.size U w')
    (h5 : ∀ U, Calls Try.prog 24 #[.agg #[.int .i64 r, .int .i64 c, .bool p], .agg #[.int .i64 W, .int .i64 H, .int .i64 T, .int .i64 E, .bool O]] U fun e w' => e = .returned (.tuple #[.agg #[.int .i64 R5, .int .i64 C5, .bool false], .int .i64 N2]) ∧ Below U.heap.size U w')
    (h6 : ∀ U, Calls Try.prog 11 #[.agg #[.int .i64 W, .int .i64 H, .int .i64 T, .int .i64 E, .bool O]] U fun e w' => e = .returned (.int .i64 0) ∧ Below U.heap.size U w')
    (hin : ∀ j : Nat, j < 5 → 0 ≤ [R1, R2, R3, R4, R5].getD j 0 ∧ [R1, R2, R3, R4, R5].getD j 0 < H ∧ 0 ≤ [C1, C2, C3, C4, C5].getD j 0 ∧ [C1, C2, C3, C4, C5].getD j 0 < W)
    (n1 : 0 ≤ N1 ∧ N1 ≤ 1) (n2 : 0 ≤ N2 ∧ N2 ≤ 1)
    : Calls Try.prog 5 #[.agg #[.int .i64 r, .int .i64 c, .bool p], .agg #[.int .i64 W, .int .i64 H, .int .i64 T, .int .i64 E, .bool O], .int .i64 n, .int .i64 m] w fun e w' => e = .returned (.bool true) ∧ Below w.heap.size w w' := by
  have eq1 := Try.stoodInHeld23
  have eq2 := Try.eqGuardType23
  have G1 := Lib.hid h1
  have G2 := Lib.hid h2
  have G3 := Lib.hid h3
  have G4 := Lib.hid h4
  have G5 := Lib.hid h5
  have G6 := Lib.hid h6
  have HIN := Lib.hid hin
  obtain ⟨n1a, n1b⟩ := n1
  obtain ⟨n2a, n2b⟩ := n2
  have K0 := Lib.hid (Me.start w r c W H T E O p _ (Below.refl _ _))
  clear h1 h2 h3 h4 h5 h6 hin
  go_enter Try.func5, Try.ntmps5
  go_wp2_with fail
  refine (G4.out _).mono ?_
  rintro e w1 ⟨rfl, b1⟩
  have K1 := Lib.hid ((K0.out.below b1).more R4 C4 false)
  clear b1 G4 K0
  have u0 := K1.out.2.1.c0
  have u1 := K1.out.2.1.c1
  have u2 := K1.out.2.1.c2
  have m0 := K1.out.2.2.1.c0
  have m1 := K1.out.2.2.1.c1
  have m2 := K1.out.2.2.1.c2
  have m3 := K1.out.2.2.1.c3
  have m4 := K1.out.2.2.1.c4
  go_wp2_with fail
  clear u0 u1 u2 m0 m1 m2 m3 m4
  generalize w1.alloc (.cells #[.int .i64 R4, .int .i64 C4, .bool false] 23) = y1 at K1 ⊢
  generalize w1.heap.size = k1 at K1 ⊢
  refine (G5.out _).mono ?_
  rintro e w2 ⟨rfl, b2⟩
  have K2 := Lib.hid ((K1.out.below b2).more R5 C5 false)
  clear b2 G5 K1
  have u0 := K2.out.2.1.c0
  have u1 := K2.out.2.1.c1
  have u2 := K2.out.2.1.c2
  have m0 := K2.out.2.2.1.c0
  have m1 := K2.out.2.2.1.c1
  have m2 := K2.out.2.2.1.c2
  have m3 := K2.out.2.2.1.c3
  have m4 := K2.out.2.2.1.c4
  go_wp2_with fail
  clear u0 u1 u2 m0 m1 m2 m3 m4
  generalize w2.alloc (.cells #[.int .i64 R5, .int .i64 C5, .bool false] 23) = y2 at K2 ⊢
  generalize w2.heap.size = k2 at K2 ⊢
  have key0 : ∀ U, Me w U r c p W H T E O [(k1, R4, C4, false), (k2, R5, C5, false)] → (U.cell? ⟨w.heap.size, 0, none⟩ = some (.int .i64 r) ∧ U.cell? ⟨w.heap.size, 1, none⟩ = some (.int .i64 c) ∧ U.cell? ⟨w.heap.size, 2, none⟩ = some (.bool p) ∧ U.cell? ⟨w.heap.size + 1, 0, none⟩ = some (.int .i64 W) ∧ U.cell? ⟨w.heap.size + 1, 1, none⟩ = some (.int .i64 H) ∧ U.cell? ⟨w.heap.size + 1, 2, none⟩ = some (.int .i64 T) ∧ U.cell? ⟨w.heap.size + 1, 3, none⟩ = some (.int .i64 E) ∧ U.cell? ⟨w.heap.size + 1, 4, none⟩ = some (.bool O) ∧ U.cell? ⟨k1, 0, none⟩ = some (.int .i64 R4) ∧ U.cell? ⟨k1, 1, none⟩ = some (.int .i64 C4) ∧ U.cell? ⟨k1, 2, none⟩ = some (.bool false) ∧ U.cell? ⟨k2, 0, none⟩ = some (.int .i64 R5) ∧ U.cell? ⟨k2, 1, none⟩ = some (.int .i64 C5) ∧ U.cell? ⟨k2, 2, none⟩ = some (.bool false) ∧ Aside (Me w U r c p W H T E O [(k1, R4, C4, false), (k2, R5, C5, false)])) := fun U k =>
    ⟨k.2.1.c0, k.2.1.c1, k.2.1.c2, k.2.2.1.c0, k.2.2.1.c1, k.2.2.1.c2, k.2.2.1.c3, k.2.2.1.c4, (k.at 0 rfl).c0, (k.at 0 rfl).c1, (k.at 0 rfl).c2, (k.at 1 rfl).c0, (k.at 1 rfl).c1, (k.at 1 rfl).c2, k⟩
  have HKEEP : Hid (∀ (U U' : World), (U.cell? ⟨w.heap.size, 0, none⟩ = some (.int .i64 r) ∧ U.cell? ⟨w.heap.size, 1, none⟩ = some (.int .i64 c) ∧ U.cell? ⟨w.heap.size, 2, none⟩ = some (.bool p) ∧ U.cell? ⟨w.heap.size + 1, 0, none⟩ = some (.int .i64 W) ∧ U.cell? ⟨w.heap.size + 1, 1, none⟩ = some (.int .i64 H) ∧ U.cell? ⟨w.heap.size + 1, 2, none⟩ = some (.int .i64 T) ∧ U.cell? ⟨w.heap.size + 1, 3, none⟩ = some (.int .i64 E) ∧ U.cell? ⟨w.heap.size + 1, 4, none⟩ = some (.bool O) ∧ U.cell? ⟨k1, 0, none⟩ = some (.int .i64 R4) ∧ U.cell? ⟨k1, 1, none⟩ = some (.int .i64 C4) ∧ U.cell? ⟨k1, 2, none⟩ = some (.bool false) ∧ U.cell? ⟨k2, 0, none⟩ = some (.int .i64 R5) ∧ U.cell? ⟨k2, 1, none⟩ = some (.int .i64 C5) ∧ U.cell? ⟨k2, 2, none⟩ = some (.bool false) ∧ Aside (Me w U r c p W H T E O [(k1, R4, C4, false), (k2, R5, C5, false)])) → Below U.heap.size U U' → (U'.cell? ⟨w.heap.size, 0, none⟩ = some (.int .i64 r) ∧ U'.cell? ⟨w.heap.size, 1, none⟩ = some (.int .i64 c) ∧ U'.cell? ⟨w.heap.size, 2, none⟩ = some (.bool p) ∧ U'.cell? ⟨w.heap.size + 1, 0, none⟩ = some (.int .i64 W) ∧ U'.cell? ⟨w.heap.size + 1, 1, none⟩ = some (.int .i64 H) ∧ U'.cell? ⟨w.heap.size + 1, 2, none⟩ = some (.int .i64 T) ∧ U'.cell? ⟨w.heap.size + 1, 3, none⟩ = some (.int .i64 E) ∧ U'.cell? ⟨w.heap.size + 1, 4, none⟩ = some (.bool O) ∧ U'.cell? ⟨k1, 0, none⟩ = some (.int .i64 R4) ∧ U'.cell? ⟨k1, 1, none⟩ = some (.int .i64 C4) ∧ U'.cell? ⟨k1, 2, none⟩ = some (.bool false) ∧ U'.cell? ⟨k2, 0, none⟩ = some (.int .i64 R5) ∧ U'.cell? ⟨k2, 1, none⟩ = some (.int .i64 C5) ∧ U'.cell? ⟨k2, 2, none⟩ = some (.bool false) ∧ Aside (Me w U' r c p W H T E O [(k1, R4, C4, false), (k2, R5, C5, false)]))) := Lib.hid (fun U U' hs hu => key0 U' (hs.2.2.2.2.2.2.2.2.2.2.2.2.2.2.out.below hu))
  have hS := key0 y2.drew (K2.out.below (Below.refl _ _).drew)
  clear key0 K2
  refine wp_region_held_drew (S := fun U => U.cell? ⟨w.heap.size, 0, none⟩ = some (.int .i64 r) ∧ U.cell? ⟨w.heap.size, 1, none⟩ = some (.int .i64 c) ∧ U.cell? ⟨w.heap.size, 2, none⟩ = some (.bool p) ∧ U.cell? ⟨w.heap.size + 1, 0, none⟩ = some (.int .i64 W) ∧ U.cell? ⟨w.heap.size + 1, 1, none⟩ = some (.int .i64 H) ∧ U.cell? ⟨w.heap.size + 1, 2, none⟩ = some (.int .i64 T) ∧ U.cell? ⟨w.heap.size + 1, 3, none⟩ = some (.int .i64 E) ∧ U.cell? ⟨w.heap.size + 1, 4, none⟩ = some (.bool O) ∧ U.cell? ⟨k1, 0, none⟩ = some (.int .i64 R4) ∧ U.cell? ⟨k1, 1, none⟩ = some (.int .i64 C4) ∧ U.cell? ⟨k1, 2, none⟩ = some (.bool false) ∧ U.cell? ⟨k2, 0, none⟩ = some (.int .i64 R5) ∧ U.cell? ⟨k2, 1, none⟩ = some (.int .i64 C5) ∧ U.cell? ⟨k2, 2, none⟩ = some (.bool false) ∧ Aside (Me w U r c p W H T E O [(k1, R4, C4, false), (k2, R5, C5, false)])) (by kernel_rfl) hS (fun hHeld => ?_)
  clear hS
  refine wpAnyH_take (i := 0) (v := ?_) rfl (by kernel_rfl) (by kernel_rfl) (by kernel_rfl) (fun _ _ _ h => h) (Or.inl ⟨by rfl, ?_⟩) (by assumption) ?_
  rotate_left
  · (intro W hSw; (try dsimp only at hSw); go_simp; try with_reducible rfl)
  simp only [Act.put, List.getElem_toArray, List.getElem_cons_zero, List.setIfInBounds_toArray, List.set_cons_zero, List.set_cons_succ]
  refine wpAnyH_take (i := 1) (v := ?_) rfl (by kernel_rfl) (by kernel_rfl) (by kernel_rfl) (fun _ _ _ h => h) (Or.inl ⟨by rfl, ?_⟩) (by assumption) ?_
  rotate_left
  · (intro W hSw; (try dsimp only at hSw); go_simp; try with_reducible rfl)
  simp only [Act.put, List.getElem_toArray, List.getElem_cons_succ, List.getElem_cons_zero, List.setIfInBounds_toArray, List.set_cons_zero, List.set_cons_succ]
  refine wpAnyH_take (i := 2) (v := ?_) rfl (by kernel_rfl) (by kernel_rfl) (by kernel_rfl) (fun _ _ _ h => h) (Or.inl ⟨by rfl, ?_⟩) (by assumption) ?_
  rotate_left
  · (intro W hSw; (try dsimp only at hSw); go_simp; try with_reducible rfl)
  simp only [Act.put, List.getElem_toArray, List.getElem_cons_succ, List.getElem_cons_zero, List.setIfInBounds_toArray, List.set_cons_zero, List.set_cons_succ]
  refine wpAnyH_take (i := 4) (v := ?_) rfl (by kernel_rfl) (by kernel_rfl) (by kernel_rfl) (fun _ _ _ h => h) (Or.inl ⟨by rfl, ?_⟩) (by assumption) ?_
  rotate_left
  · (intro W hSw; (try dsimp only at hSw); go_simp; try with_reducible rfl)
  simp only [Act.put, List.getElem_toArray, List.getElem_cons_succ, List.getElem_cons_zero, List.setIfInBounds_toArray, List.set_cons_zero, List.set_cons_succ]
  refine wpAnyH_take (i := 5) (v := ?_) rfl (by kernel_rfl) (by kernel_rfl) (by kernel_rfl) (fun _ _ _ h => h) (Or.inl ⟨by rfl, ?_⟩) (by assumption) ?_
  rotate_left
  · (intro W hSw; (try dsimp only at hSw); go_simp; try with_reducible rfl)
  simp only [Act.put, List.getElem_toArray, List.getElem_cons_succ, List.getElem_cons_zero, List.setIfInBounds_toArray, List.set_cons_zero, List.set_cons_succ]
  refine wpAnyH_take (i := 6) (v := ?_) rfl (by kernel_rfl) (by kernel_rfl) (by kernel_rfl) (fun _ _ _ h => h) (Or.inl ⟨by rfl, ?_⟩) (by assumption) ?_
  rotate_left
  · (intro W hSw; (try dsimp only at hSw); go_simp; try with_reducible rfl)
  simp only [Act.put, List.getElem_toArray, List.getElem_cons_succ, List.getElem_cons_zero, List.setIfInBounds_toArray, List.set_cons_zero, List.set_cons_succ]
  refine wpAnyH_take (i := 8) (v := ?_) rfl (by kernel_rfl) (by kernel_rfl) (by kernel_rfl) (fun _ _ _ h => h) (Or.inl ⟨by rfl, ?_⟩) (by assumption) ?_
  rotate_left
  · (intro W hSw; (try dsimp only at hSw); go_simp; try with_reducible rfl)
  simp only [Act.put, List.getElem_toArray, List.getElem_cons_succ, List.getElem_cons_zero, List.setIfInBounds_toArray, List.set_cons_zero, List.set_cons_succ]
  refine wpAnyH_take (i := 9) (v := ?_) rfl (by kernel_rfl) (by kernel_rfl) (by kernel_rfl) (fun _ _ _ h => h) (Or.inl ⟨by rfl, ?_⟩) (by assumption) ?_
  rotate_left
  · (intro W hSw; (try dsimp only at hSw); go_simp; try with_reducible rfl)
  simp only [Act.put, List.getElem_toArray, List.getElem_cons_succ, List.getElem_cons_zero, List.setIfInBounds_toArray, List.set_cons_zero, List.set_cons_succ]
  refine wpAnyH_take (i := 10) (v := ?_) rfl (by kernel_rfl) (by kernel_rfl) (by kernel_rfl) (fun _ _ _ h => h) (Or.inl ⟨by rfl, ?_⟩) (by assumption) ?_
  rotate_left
  · (intro W hSw; (try dsimp only at hSw); go_simp; try with_reducible rfl)
  simp only [Act.put, List.getElem_toArray, List.getElem_cons_succ, List.getElem_cons_zero, List.setIfInBounds_toArray, List.set_cons_zero, List.set_cons_succ]
  refine wpAnyH_take (i := 11) (v := ?_) rfl (by kernel_rfl) (by kernel_rfl) (by kernel_rfl) (fun _ _ _ h => h) (Or.inl ⟨by rfl, ?_⟩) (by assumption) ?_
  rotate_left
  · (intro W hSw; (try dsimp only at hSw); go_simp; try with_reducible rfl)
  simp only [Act.put, List.getElem_toArray, List.getElem_cons_succ, List.getElem_cons_zero, List.setIfInBounds_toArray, List.set_cons_zero, List.set_cons_succ]
  refine wpAnyH_take (i := 13) (v := ?_) rfl (by kernel_rfl) (by kernel_rfl) (by kernel_rfl) (fun _ _ _ h => h) (Or.inl ⟨by rfl, ?_⟩) (by assumption) ?_
  rotate_left
  · (intro W hSw; (try dsimp only at hSw); go_simp; try with_reducible rfl)
  simp only [Act.put, List.getElem_toArray, List.getElem_cons_succ, List.getElem_cons_zero, List.setIfInBounds_toArray, List.set_cons_zero, List.set_cons_succ]
  refine wpAnyH_take (i := 14) (v := ?_) rfl (by kernel_rfl) (by kernel_rfl) (by kernel_rfl) (fun _ _ _ h => h) (Or.inl ⟨by rfl, ?_⟩) (by assumption) ?_
  rotate_left
  · (intro W hSw; (try dsimp only at hSw); go_simp; try with_reducible rfl)
  simp only [Act.put, List.getElem_toArray, List.getElem_cons_succ, List.getElem_cons_zero, List.setIfInBounds_toArray, List.set_cons_zero, List.set_cons_succ]
  refine wpAnyH_ready (rs := [3]) (by kernel_rfl) (by simp) ?_
  refine AllReadyH.cons rfl (fun K hK => ?_) AllReadyH.nil
  go_simp
  (with_reducible refine (G1.out _).mono ?_); rintro e w' ⟨rfl, hb'⟩; have hs' := HKEEP.out _ _ hHeld hb'; clear hHeld hb'
  refine hK.out _ _ hs' (fun hHeld => ?_)
  clear hK K hs'
  refine wpAnyH_ready (rs := [7]) (by kernel_rfl) (by simp) ?_
  refine AllReadyH.cons rfl (fun K hK => ?_) AllReadyH.nil
  go_simp
  (with_reducible refine (G2.out _).mono ?_); rintro e w' ⟨rfl, hb'⟩; have hs' := HKEEP.out _ _ hHeld hb'; clear hHeld hb'
  refine hK.out _ _ hs' (fun hHeld => ?_)
  clear hK K hs'
  refine wpAnyH_ready (rs := [12]) (by kernel_rfl) (by simp) ?_
  refine AllReadyH.cons rfl (fun K hK => ?_) AllReadyH.nil
  go_simp
  (with_reducible refine (G3.out _).mono ?_); rintro e w' ⟨rfl, hb'⟩; have hs' := HKEEP.out _ _ hHeld hb'; clear hHeld hb'
  refine hK.out _ _ hs' (fun hHeld => ?_)
  clear hK K hs'
  refine wpAnyH_ready (rs := [15]) (by kernel_rfl) (by simp) ?_
  refine AllReadyH.cons rfl (fun K hK => ?_) AllReadyH.nil
  go_simp
  have hs' := HKEEP.out _ _ hHeld (below_alloc w' (.cells #[.int .i64 R1, .int .i64 C1, .bool false, .int .i64 R2, .int .i64 C2, .bool false, .int .i64 R3, .int .i64 C3, .bool false, .int .i64 R4, .int .i64 C4, .bool false, .int .i64 R5, .int .i64 C5, .bool false] 23)); have HM := Lib.hid hHeld.2.2.2.2.2.2.2.2.2.2.2.2.2.2.out; clear hHeld
  refine hK.out _ _ hs' (fun hHeld => ?_)
  clear hK K hs'
  refine wpAnyH_take (i := 16) (v := ?_) rfl (by kernel_rfl) (by kernel_rfl) (by kernel_rfl) (fun _ _ _ h => h) (Or.inl ⟨by rfl, ?_⟩) (by assumption) ?_
  rotate_left
  · (intro W hSw; (try dsimp only at hSw); go_simp; try with_reducible rfl)
  simp only [Act.put, List.getElem_toArray, List.getElem_cons_succ, List.getElem_cons_zero, List.setIfInBounds_toArray, List.set_cons_zero, List.set_cons_succ]
  refine wpAnyH_done (by kernel_rfl) ?_ _
  clear hHeld HKEEP G1 G2 G3
  have HC := Lib.hid (heap_alloc_new w' (.cells #[.int .i64 R1, .int .i64 C1, .bool false, .int .i64 R2, .int .i64 C2, .bool false, .int .i64 R3, .int .i64 C3, .bool false, .int .i64 R4, .int .i64 C4, .bool false, .int .i64 R5, .int .i64 C5, .bool false] 23))
  have HM2 := Lib.hid (HM.out.below (below_alloc w' (.cells #[.int .i64 R1, .int .i64 C1, .bool false, .int .i64 R2, .int .i64 C2, .bool false, .int .i64 R3, .int .i64 C3, .bool false, .int .i64 R4, .int .i64 C4, .bool false, .int .i64 R5, .int .i64 C5, .bool false] 23)))
  clear HM
  generalize w'.alloc (.cells #[.int .i64 R1, .int .i64 C1, .bool false, .int .i64 R2, .int .i64 C2, .bool false, .int .i64 R3, .int .i64 C3, .bool false, .int .i64 R4, .int .i64 C4, .bool false, .int .i64 R5, .int .i64 C5, .bool false] 23) = w4 at HC HM2 ⊢
  generalize w'.heap.size = g at HC ⊢
  have HL := Lib.hid (lt_of_block HC.out)
  have HT : Hid (∀ j : Nat, j < 5 → ∀ U, Below w4.heap.size w4 U → U.cell? ⟨g, j * 3, none⟩ = some (.int .i64 ([R1, R2, R3, R4, R5].getD j 0)) ∧ U.cell? ⟨g, j * 3 + 1, none⟩ = some (.int .i64 ([C1, C2, C3, C4, C5].getD j 0)) ∧ U.cell? ⟨g, j * 3 + 2, none⟩ = some (.bool false)) := Lib.hid (by
    intro j hj U hU
    have hg := (hU.block g HL.out).trans HC.out
    have e : j = 0 ∨ j = 1 ∨ j = 2 ∨ j = 3 ∨ j = 4 := by omega
    rcases e with rfl | rfl | rfl | rfl | rfl <;> exact ⟨cell_of_row U g _ _ _ _ hg, cell_of_row U g _ _ _ _ hg, cell_of_row U g _ _ _ _ hg⟩)
  clear HC
  go_wp2
  go_loopg [15, 46] 6 (fun gk _ v46 wr => ∃ j : Nat, gk + j = 6 ∧ j ≤ 5 ∧ v46 = .int .i64 (j : Int) ∧ Aside (Below w4.heap.size w4 wr))
  case atStart => exact ⟨0, by omega, by omega, rfl, Below.refl _ _⟩
  case round =>
    obtain ⟨j, hg, hj5, rfl, hA⟩ := hrel
    by_cases hlt : j < 5
    · obtain ⟨g', rfl⟩ : ∃ g', gk = g' + 1 := ⟨gk - 1, by omega⟩
      have hz : (j : Int) < 5 := by omega
      have hz0 : (0 : Int) ≤ (j : Int) := by omega
      have t := HT.out j hlt wr hA.out
      have i := HIN.out j hlt
      generalize [R1, R2, R3, R4, R5].getD j 0 = y at t i
      generalize [C1, C2, C3, C4, C5].getD j 0 = z at t i
      obtain ⟨t0, t1, t2⟩ := t
      obtain ⟨i0, i1, i2, i3⟩ := i
      have CI := Lib.hid (fun w => inside_yes y z W H T E O ⟨i0, i1, i2, i3⟩ w)
      have HX := Lib.hid (below_step hA.out (below_alloc wr (.cells #[.int .i64 y, .int .i64 z, .bool false] 23)))
      have HY := Lib.hid (Cr.laid wr y z false)
      have mX := HM2.out.below HX.out
      have m0 := mX.2.2.1.c0
      have m1 := mX.2.2.1.c1
      have m2 := mX.2.2.1.c2
      have m3 := mX.2.2.1.c3
      have m4 := mX.2.2.1.c4
      clear mX hA
      go_wp2_with fail
      clear t0 t1 t2 m0 m1 m2 m3 m4
      generalize wr.alloc (.cells #[.int .i64 y, .int .i64 z, .bool false] 23) = wz at HX HY ⊢
      generalize wr.heap.size = kz at HY ⊢
      refine (G6.out wz).mono ?_
      rintro e wc ⟨rfl, bc⟩
      have HX2 := Lib.hid (below_step HX.out bc)
      have mX := HM2.out.below HX2.out
      have qc := HY.out.below bc
      have v0 := qc.c0
      have v1 := qc.c1
      have v2 := qc.c2
      have m0 := mX.2.2.1.c0
      have m1 := mX.2.2.1.c1
      have m2 := mX.2.2.1.c2
      have m3 := mX.2.2.1.c3
      have m4 := mX.2.2.1.c4
      clear mX qc bc HX HY
      go_wp2_with fail
      clear v0 v1 v2 m0 m1 m2 m3 m4
      refine (CI.out wc).mono ?_
      rintro e wd ⟨rfl, bd⟩
      have HX3 := Lib.hid (below_step HX2.out bd)
      clear bd CI
      go_wp2
      go_roundg g'
      case measure => omega
      case rel => exact ⟨j + 1, by omega, by omega, by go_num, HX3.out⟩
    · have hz : ¬ (j : Int) < 5 := by omega
      have mX := HM2.out.below hA.out
      have m0 := mX.2.2.1.c0
      have m1 := mX.2.2.1.c1
      have m2 := mX.2.2.1.c2
      have m3 := mX.2.2.1.c3
      have m4 := mX.2.2.1.c4
      have HB := Lib.hid mX.1
      clear mX hA HT HIN
      go_wp2_with fail
      refine (G6.out wr).mono ?_
      rintro e wc ⟨rfl, bc⟩
      have HB2 := Lib.hid (below_step HB.out bc)
      clear bc HB m0 m1 m2 m3 m4
      go_wp2_with fail
      refine (awake_any _).mono ?_
      rintro e wd ⟨rfl, bd⟩
      go_wp2
      go_ret
      exact ⟨rfl, below_step HB2.out bd⟩

end Go.Proofs.Yteenjjiobibokaa
