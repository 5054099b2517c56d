/-
  The statement of layer 10 on the scroll region: the walk.
-/
import Derived.Test.YteenjjiobibokaaCuMem
import Derived.Deep.RegionHeld3
namespace Go.Proofs.Yteenjjiobibokaa
open Go.RowKit Cu

set_option maxHeartbeats 8000000 in
set_option maxRecDepth 100000 in
theorem region_main (r c : Int) (p : Bool) (W H T E : Int) (O : Bool) (n R1 R2 R3 N1 N2 : Int) (q1 q2 : Bool) (w : World)
    (h1 : ∀ U, Calls Try.prog 15 #[.agg #[.int .i64 r, .int .i64 c, .bool p], .int .i64 n, .agg #[.int .i64 W, .int .i64 H, .int .i64 T, .int .i64 E, .bool O]] U fun e w' => e = .returned (.agg #[.int .i64 R1, .int .i64 c, .bool false]) ∧ Below U.heap.size U w')
    (h2 : ∀ U, Calls Try.prog 22 #[.agg #[.int .i64 r, .int .i64 c, .bool p], .agg #[.int .i64 W, .int .i64 H, .int .i64 T, .int .i64 E, .bool O]] U fun e w' => e = .returned (.tuple #[.agg #[.int .i64 R2, .int .i64 c, .bool false], .int .i64 N1]) ∧ Below U.heap.size U w')
    (h3 : ∀ U, Calls Try.prog 24 #[.agg #[.int .i64 r, .int .i64 c, .bool p], .agg #[.int .i64 W, .int .i64 H, .int .i64 T, .int .i64 E, .bool O]] U fun e w' => e = .returned (.tuple #[.agg #[.int .i64 R3, .int .i64 c, .bool false], .int .i64 N2]) ∧ Below U.heap.size U w')
    (h4 : ∀ U, Calls Try.prog 11 #[.agg #[.int .i64 W, .int .i64 H, .int .i64 T, .int .i64 E, .bool O]] U fun e w' => e = .returned (.int .i64 0) ∧ Below U.heap.size U w')
    (hE : 1 ≤ E ∧ E ≤ 60) (hin : ∀ j : Nat, j < 3 → T ≤ [R1, R2, R3].getD j 0 ∧ [R1, R2, R3].getD j 0 < E) (g1 : ¬ r < T) (g2 : ¬ E ≤ r) (g3 : ¬ c < 0) (g4 : ¬ W ≤ c)
    (e1 : (N1 == 1) = q1) (e2 : (r == E - 1) = q1) (e3 : (N2 == 1) = q2) (e4 : (r == T) = q2)
    : Calls Try.prog 6 #[.agg #[.int .i64 r, .int .i64 c, .bool p], .agg #[.int .i64 W, .int .i64 H, .int .i64 T, .int .i64 E, .bool O], .int .i64 n] w fun e w' => e = .returned (.bool true) ∧ Below w.heap.size w w' := by
  have G1 := Lib.hid h1
  have G2 := Lib.hid h2
  have G3 := Lib.hid h3
  have G4 := Lib.hid h4
  have HIN := Lib.hid hin
  obtain ⟨E0, E1⟩ := hE
  have eq1 : (q1 == q1) = true := by simp
  have eq2 : (q2 == q2) = true := by simp
  have ecc : (c != c) = false := by simp
  have HK := Lib.hid (Me.start w r c W H T E O p)
  clear h1 h2 h3 h4 hin
  go_enter Try.func6, Try.ntmps6
  go_wp2_with fail
  refine (G4.out _).mono ?_
  rintro e w0 ⟨rfl, b0⟩
  have K0 := Lib.hid (HK.out _ b0)
  clear b0 HK
  have u0 := K0.out.2.1.c0
  have u1 := K0.out.2.1.c1
  have u2 := K0.out.2.1.c2
  have m0 := K0.out.2.2.1.c0
  have m1 := K0.out.2.2.1.c1
  have m2 := K0.out.2.2.1.c2
  have m3 := K0.out.2.2.1.c3
  have m4 := K0.out.2.2.1.c4
  go_wp2_with fail
  clear u0 u1 u2 m0 m1 m2 m3 m4 g1 g2 g3 g4
  refine (G2.out _).mono ?_
  rintro e w1 ⟨rfl, b1⟩
  have K1 := Lib.hid ((K0.out.below b1).more R2 c false)
  clear b1 G2 K0
  have u0 := K1.out.2.1.c0
  have u1 := K1.out.2.1.c1
  have u2 := K1.out.2.1.c2
  have m0 := K1.out.2.2.1.c0
  have m1 := K1.out.2.2.1.c1
  have m2 := K1.out.2.2.1.c2
  have m3 := K1.out.2.2.1.c3
  have m4 := K1.out.2.2.1.c4
  go_wp2_with fail
  clear u0 u1 u2 m0 m1 m2 m3 m4
  generalize w1.alloc (.cells #[.int .i64 R2, .int .i64 c, .bool false] 23) = y1 at K1 ⊢
  generalize w1.heap.size = k1 at K1 ⊢
  refine (G3.out _).mono ?_
  rintro e w2 ⟨rfl, b2⟩
  have K2 := Lib.hid ((K1.out.below b2).more R3 c false)
  clear b2 G3 K1
  have u0 := K2.out.2.1.c0
  have u1 := K2.out.2.1.c1
  have u2 := K2.out.2.1.c2
  have m0 := K2.out.2.2.1.c0
  have m1 := K2.out.2.2.1.c1
  have m2 := K2.out.2.2.1.c2
  have m3 := K2.out.2.2.1.c3
  have m4 := K2.out.2.2.1.c4
  go_wp2_with fail
  clear u0 u1 u2 m0 m1 m2 m3 m4
  generalize w2.alloc (.cells #[.int .i64 R3, .int .i64 c, .bool false] 23) = y2 at K2 ⊢
  generalize w2.heap.size = k2 at K2 ⊢
  have key0 : ∀ U, Me w U r c p W H T E O [(k1, R2, c, false), (k2, R3, c, false)] → (U.cell? ⟨w.heap.size, 0, none⟩ = some (.int .i64 r) ∧ U.cell? ⟨w.heap.size, 1, none⟩ = some (.int .i64 c) ∧ U.cell? ⟨w.heap.size, 2, none⟩ = some (.bool p) ∧ U.cell? ⟨w.heap.size + 1, 0, none⟩ = some (.int .i64 W) ∧ U.cell? ⟨w.heap.size + 1, 1, none⟩ = some (.int .i64 H) ∧ U.cell? ⟨w.heap.size + 1, 2, none⟩ = some (.int .i64 T) ∧ U.cell? ⟨w.heap.size + 1, 3, none⟩ = some (.int .i64 E) ∧ U.cell? ⟨w.heap.size + 1, 4, none⟩ = some (.bool O) ∧ U.cell? ⟨k1, 0, none⟩ = some (.int .i64 R2) ∧ U.cell? ⟨k1, 1, none⟩ = some (.int .i64 c) ∧ U.cell? ⟨k1, 2, none⟩ = some (.bool false) ∧ U.cell? ⟨k2, 0, none⟩ = some (.int .i64 R3) ∧ U.cell? ⟨k2, 1, none⟩ = some (.int .i64 c) ∧ U.cell? ⟨k2, 2, none⟩ = some (.bool false) ∧ Aside (Me w U r c p W H T E O [(k1, R2, c, false), (k2, R3, c, false)])) := fun U k =>
    ⟨k.2.1.c0, k.2.1.c1, k.2.1.c2, k.2.2.1.c0, k.2.2.1.c1, k.2.2.1.c2, k.2.2.1.c3, k.2.2.1.c4, (k.at 0 rfl).c0, (k.at 0 rfl).c1, (k.at 0 rfl).c2, (k.at 1 rfl).c0, (k.at 1 rfl).c1, (k.at 1 rfl).c2, k⟩
  have HKEEP : Hid (∀ (U U' : World), (U.cell? ⟨w.heap.size, 0, none⟩ = some (.int .i64 r) ∧ U.cell? ⟨w.heap.size, 1, none⟩ = some (.int .i64 c) ∧ U.cell? ⟨w.heap.size, 2, none⟩ = some (.bool p) ∧ U.cell? ⟨w.heap.size + 1, 0, none⟩ = some (.int .i64 W) ∧ U.cell? ⟨w.heap.size + 1, 1, none⟩ = some (.int .i64 H) ∧ U.cell? ⟨w.heap.size + 1, 2, none⟩ = some (.int .i64 T) ∧ U.cell? ⟨w.heap.size + 1, 3, none⟩ = some (.int .i64 E) ∧ U.cell? ⟨w.heap.size + 1, 4, none⟩ = some (.bool O) ∧ U.cell? ⟨k1, 0, none⟩ = some (.int .i64 R2) ∧ U.cell? ⟨k1, 1, none⟩ = some (.int .i64 c) ∧ U.cell? ⟨k1, 2, none⟩ = some (.bool false) ∧ U.cell? ⟨k2, 0, none⟩ = some (.int .i64 R3) ∧ U.cell? ⟨k2, 1, none⟩ = some (.int .i64 c) ∧ U.cell? ⟨k2, 2, none⟩ = some (.bool false) ∧ Aside (Me w U r c p W H T E O [(k1, R2, c, false), (k2, R3, c, false)])) → Below U.heap.size U U' → (U'.cell? ⟨w.heap.size, 0, none⟩ = some (.int .i64 r) ∧ U'.cell? ⟨w.heap.size, 1, none⟩ = some (.int .i64 c) ∧ U'.cell? ⟨w.heap.size, 2, none⟩ = some (.bool p) ∧ U'.cell? ⟨w.heap.size + 1, 0, none⟩ = some (.int .i64 W) ∧ U'.cell? ⟨w.heap.size + 1, 1, none⟩ = some (.int .i64 H) ∧ U'.cell? ⟨w.heap.size + 1, 2, none⟩ = some (.int .i64 T) ∧ U'.cell? ⟨w.heap.size + 1, 3, none⟩ = some (.int .i64 E) ∧ U'.cell? ⟨w.heap.size + 1, 4, none⟩ = some (.bool O) ∧ U'.cell? ⟨k1, 0, none⟩ = some (.int .i64 R2) ∧ U'.cell? ⟨k1, 1, none⟩ = some (.int .i64 c) ∧ U'.cell? ⟨k1, 2, none⟩ = some (.bool false) ∧ U'.cell? ⟨k2, 0, none⟩ = some (.int .i64 R3) ∧ U'.cell? ⟨k2, 1, none⟩ = some (.int .i64 c) ∧ U'.cell? ⟨k2, 2, none⟩ = some (.bool false) ∧ Aside (Me w U' r c p W H T E O [(k1, R2, c, false), (k2, R3, c, false)]))) := Lib.hid (fun U U' hs hu => key0 U' (hs.2.2.2.2.2.2.2.2.2.2.2.2.2.2.out.below hu))
  have hS := key0 y2.drew (K2.out.below (Below.refl _ _).drew)
  clear key0 K2
  refine wp_region_held_drew (S := fun U => U.cell? ⟨w.heap.size, 0, none⟩ = some (.int .i64 r) ∧ U.cell? ⟨w.heap.size, 1, none⟩ = some (.int .i64 c) ∧ U.cell? ⟨w.heap.size, 2, none⟩ = some (.bool p) ∧ U.cell? ⟨w.heap.size + 1, 0, none⟩ = some (.int .i64 W) ∧ U.cell? ⟨w.heap.size + 1, 1, none⟩ = some (.int .i64 H) ∧ U.cell? ⟨w.heap.size + 1, 2, none⟩ = some (.int .i64 T) ∧ U.cell? ⟨w.heap.size + 1, 3, none⟩ = some (.int .i64 E) ∧ U.cell? ⟨w.heap.size + 1, 4, none⟩ = some (.bool O) ∧ U.cell? ⟨k1, 0, none⟩ = some (.int .i64 R2) ∧ U.cell? ⟨k1, 1, none⟩ = some (.int .i64 c) ∧ U.cell? ⟨k1, 2, none⟩ = some (.bool false) ∧ U.cell? ⟨k2, 0, none⟩ = some (.int .i64 R3) ∧ U.cell? ⟨k2, 1, none⟩ = some (.int .i64 c) ∧ U.cell? ⟨k2, 2, none⟩ = some (.bool false) ∧ Aside (Me w U r c p W H T E O [(k1, R2, c, false), (k2, R3, c, false)])) (by kernel_rfl) hS (fun hHeld => ?_)
  clear hS
  refine wpAnyH_take (i := 0) (v := ?_) rfl (by kernel_rfl) (by kernel_rfl) (by kernel_rfl) (fun _ _ _ h => h) (Or.inl ⟨by rfl, ?_⟩) (by assumption) ?_
  rotate_left
  · (intro W hSw; (try dsimp only at hSw); go_simp; try with_reducible rfl)
  simp only [Act.put, List.getElem_toArray, List.getElem_cons_zero, List.setIfInBounds_toArray, List.set_cons_zero, List.set_cons_succ]
  refine wpAnyH_take (i := 1) (v := ?_) rfl (by kernel_rfl) (by kernel_rfl) (by kernel_rfl) (fun _ _ _ h => h) (Or.inl ⟨by rfl, ?_⟩) (by assumption) ?_
  rotate_left
  · (intro W hSw; (try dsimp only at hSw); go_simp; try with_reducible rfl)
  simp only [Act.put, List.getElem_toArray, List.getElem_cons_succ, List.getElem_cons_zero, List.setIfInBounds_toArray, List.set_cons_zero, List.set_cons_succ]
  refine wpAnyH_take (i := 2) (v := ?_) rfl (by kernel_rfl) (by kernel_rfl) (by kernel_rfl) (fun _ _ _ h => h) (Or.inl ⟨by rfl, ?_⟩) (by assumption) ?_
  rotate_left
  · (intro W hSw; (try dsimp only at hSw); go_simp; try with_reducible rfl)
  simp only [Act.put, List.getElem_toArray, List.getElem_cons_succ, List.getElem_cons_zero, List.setIfInBounds_toArray, List.set_cons_zero, List.set_cons_succ]
  refine wpAnyH_take (i := 4) (v := ?_) rfl (by kernel_rfl) (by kernel_rfl) (by kernel_rfl) (fun _ _ _ h => h) (Or.inl ⟨by rfl, ?_⟩) (by assumption) ?_
  rotate_left
  · (intro W hSw; (try dsimp only at hSw); go_simp; try with_reducible rfl)
  simp only [Act.put, List.getElem_toArray, List.getElem_cons_succ, List.getElem_cons_zero, List.setIfInBounds_toArray, List.set_cons_zero, List.set_cons_succ]
  refine wpAnyH_take (i := 5) (v := ?_) rfl (by kernel_rfl) (by kernel_rfl) (by kernel_rfl) (fun _ _ _ h => h) (Or.inl ⟨by rfl, ?_⟩) (by assumption) ?_
  rotate_left
  · (intro W hSw; (try dsimp only at hSw); go_simp; try with_reducible rfl)
  simp only [Act.put, List.getElem_toArray, List.getElem_cons_succ, List.getElem_cons_zero, List.setIfInBounds_toArray, List.set_cons_zero, List.set_cons_succ]
  refine wpAnyH_take (i := 8) (v := ?_) rfl (by kernel_rfl) (by kernel_rfl) (by kernel_rfl) (fun _ _ _ h => h) (Or.inl ⟨by rfl, ?_⟩) (by assumption) ?_
  rotate_left
  · (intro W hSw; (try dsimp only at hSw); go_simp; try with_reducible rfl)
  simp only [Act.put, List.getElem_toArray, List.getElem_cons_succ, List.getElem_cons_zero, List.setIfInBounds_toArray, List.set_cons_zero, List.set_cons_succ]
  refine wpAnyH_ready (rs := [3]) (by kernel_rfl) (by simp) ?_
  refine AllReadyH.cons rfl (fun K hK => ?_) AllReadyH.nil
  go_simp
  (with_reducible refine (G1.out _).mono ?_); rintro e w' ⟨rfl, hb'⟩; have hs' := HKEEP.out _ _ hHeld hb'; clear hHeld hb'
  refine hK.out _ _ hs' (fun hHeld => ?_)
  clear hK K hs'
  refine wpAnyH_ready (rs := [6]) (by kernel_rfl) (by simp) ?_
  refine AllReadyH.cons rfl (fun K hK => ?_) AllReadyH.nil
  go_simp
  have hs' := HKEEP.out _ _ hHeld (below_alloc w' (.cells #[.int .i64 R1, .int .i64 c, .bool false, .int .i64 R2, .int .i64 c, .bool false, .int .i64 R3, .int .i64 c, .bool false] 23)); have HM := Lib.hid hHeld.2.2.2.2.2.2.2.2.2.2.2.2.2.2.out; clear hHeld
  refine hK.out _ _ hs' (fun hHeld => ?_)
  clear hK K hs'
  refine wpAnyH_take (i := 7) (v := ?_) rfl (by kernel_rfl) (by kernel_rfl) (by kernel_rfl) (fun _ _ _ h => h) (Or.inl ⟨by rfl, ?_⟩) (by assumption) ?_
  rotate_left
  · (intro W hSw; (try dsimp only at hSw); go_simp; try with_reducible rfl)
  simp only [Act.put, List.getElem_toArray, List.getElem_cons_succ, List.getElem_cons_zero, List.setIfInBounds_toArray, List.set_cons_zero, List.set_cons_succ]
  refine wpAnyH_done (by kernel_rfl) ?_ _
  clear hHeld HKEEP G1
  have HC := Lib.hid (heap_alloc_new w' (.cells #[.int .i64 R1, .int .i64 c, .bool false, .int .i64 R2, .int .i64 c, .bool false, .int .i64 R3, .int .i64 c, .bool false] 23))
  have HM2 := Lib.hid (HM.out.below (below_alloc w' (.cells #[.int .i64 R1, .int .i64 c, .bool false, .int .i64 R2, .int .i64 c, .bool false, .int .i64 R3, .int .i64 c, .bool false] 23)))
  clear HM
  generalize w'.alloc (.cells #[.int .i64 R1, .int .i64 c, .bool false, .int .i64 R2, .int .i64 c, .bool false, .int .i64 R3, .int .i64 c, .bool false] 23) = w4 at HC HM2 ⊢
  generalize w'.heap.size = g at HC ⊢
  have HL := Lib.hid (lt_of_block HC.out)
  have HT : Hid (∀ j : Nat, j < 3 → ∀ U, Below w4.heap.size w4 U → U.cell? ⟨g, j * 3, none⟩ = some (.int .i64 ([R1, R2, R3].getD j 0)) ∧ U.cell? ⟨g, j * 3 + 1, none⟩ = some (.int .i64 c) ∧ U.cell? ⟨g, j * 3 + 2, none⟩ = some (.bool false)) := Lib.hid (by
    intro j hj U hU
    have hg := (hU.block g HL.out).trans HC.out
    have e : j = 0 ∨ j = 1 ∨ j = 2 := by omega
    rcases e with rfl | rfl | rfl <;> exact ⟨cell_of_row U g _ _ _ _ hg, cell_of_row U g _ _ _ _ hg, cell_of_row U g _ _ _ _ hg⟩)
  clear HC
  go_wp2
  go_loopg [12, 63] 4 (fun gk _ v63 wr => ∃ j : Nat, gk + j = 4 ∧ j ≤ 3 ∧ v63 = .int .i64 (j : Int) ∧ Aside (Below w4.heap.size w4 wr))
  case atStart => exact ⟨0, by omega, by omega, rfl, Below.refl _ _⟩
  case round =>
    obtain ⟨j, hg, hj5, rfl, hA⟩ := hrel
    by_cases hlt : j < 3
    · obtain ⟨g', rfl⟩ : ∃ g', gk = g' + 1 := ⟨gk - 1, by omega⟩
      have hz : (j : Int) < 3 := by omega
      have hz0 : (0 : Int) ≤ (j : Int) := by omega
      have t := HT.out j hlt wr hA.out
      have i := HIN.out j hlt
      generalize [R1, R2, R3].getD j 0 = y at t i
      obtain ⟨t0, t1, t2⟩ := t
      obtain ⟨i0, i1⟩ := i
      have i2 : ¬ y < T := by omega
      have i3 : ¬ E ≤ y := by omega
      have HX := Lib.hid (below_step hA.out (below_alloc wr (.cells #[.int .i64 y, .int .i64 c, .bool false] 23)))
      have mX := HM2.out.below HX.out
      have m2 := mX.2.2.1.c2
      have m3 := mX.2.2.1.c3
      have u1 := mX.2.1.c1
      clear mX hA
      go_wp2
      go_roundg g'
      case measure => omega
      case rel => exact ⟨j + 1, by omega, by omega, by go_num, HX.out⟩
    · have hz : ¬ (j : Int) < 3 := by omega
      have mX := HM2.out.below hA.out
      have u0 := mX.2.1.c0
      have m2 := mX.2.2.1.c2
      have m3 := mX.2.2.1.c3
      have HB := Lib.hid mX.1
      clear mX hA HT HIN
      go_wp2_with fail
      refine (awake_any _).mono ?_
      rintro e wd ⟨rfl, bd⟩
      go_wp2
      go_ret
      exact ⟨rfl, below_step HB.out bd⟩

set_option maxHeartbeats 1000000 in
set_option maxRecDepth 100000 in
theorem region_walk (r c : Int) (p : Bool) (W H T E : Int) (O : Bool) (n : Int) (w : World) :
    Calls Try.prog 6 #[.agg #[.int .i64 r, .int .i64 c, .bool p], .agg #[.int .i64 W, .int .i64 H, .int .i64 T, .int .i64 E, .bool O], .int .i64 n] w fun e w' => e = .returned (.bool true) ∧ Below w.heap.size w w' := by
  by_cases h : Ok W H T E
  · have key : (T ≤ r ∧ r < E ∧ 0 ≤ c ∧ c < W) ∨ (r < T) ∨ (¬ r < T ∧ E ≤ r) ∨ (¬ r < T ∧ ¬ E ≤ r ∧ c < 0) ∨ (¬ r < T ∧ ¬ E ≤ r ∧ ¬ c < 0 ∧ W ≤ c) := by omega
    rcases key with ⟨g1, g2, g3, g4⟩ | key
    · have hr : reg T E r = true := reg_true.2 ⟨g1, g2⟩
      have h' := h
      obtain ⟨a1, a2, a3, a4, a5, a6, a7⟩ := h'
      have lr : lim r 0 (H - 1) = r := lim_in _ _ _ (by omega) (by omega)
      have lc : lim c 0 (W - 1) = c := lim_in _ _ _ g3 (by omega)
      have G1 := fun U => up_ok W H T E r c n O p h U
      have G2 := fun U => feed_ok W H T E r c O p h U
      have G3 := fun U => back_ok W H T E r c O p h U
      rw [lr, lc] at G1 G2 G3
      have f1 := up_reg (H := H) n hr
      refine region_main r c p W H T E O n _ _ _ _ _ (decide (r = E - 1)) (decide (r = T)) w G1 G2 G3 (check_yes W H T E O h) ⟨by omega, by omega⟩ (fun j hj => ?_) (by omega) (by omega) (by omega) (by omega) ?_ ?_ ?_ ?_
      · have e : j = 0 ∨ j = 1 ∨ j = 2 := by omega
        rcases e with rfl | rfl | rfl
        · exact f1
        · show T ≤ feedRow H E r ∧ feedRow H E r < E
          unfold feedRow
          split <;> (try split) <;> omega
        · show T ≤ backRow T r ∧ backRow T r < E
          unfold backRow
          split <;> (try split) <;> omega
      · by_cases e : r = E - 1 <;> simp [e]
      · by_cases e : r = E - 1 <;> simp [e]
      · by_cases e : r = T <;> simp [e]
      · by_cases e : r = T <;> simp [e]
    · have CK := Lib.hid (fun w => check_yes W H T E O h w)
      have HK := Lib.hid (Me.start w r c W H T E O p)
      clear h
      rcases key with g1 | ⟨g1, g2⟩ | ⟨g1, g2, g3⟩ | ⟨g1, g2, g3, g4⟩
      all_goals
        go_enter Try.func6, Try.ntmps6
        go_wp2_with fail
        refine (CK.out _).mono ?_
        rintro e w1 ⟨rfl, b5⟩
        have K := Lib.hid (HK.out _ b5)
        have u0 := K.out.2.1.c0
        have u1 := K.out.2.1.c1
        have m0 := K.out.2.2.1.c0
        have m2 := K.out.2.2.1.c2
        have m3 := K.out.2.2.1.c3
        go_wp2_with fail
        refine (awake_any _).mono ?_
        rintro e w2 ⟨rfl, b2⟩
        go_wp2
        go_ret
        exact ⟨rfl, (K.out.below b2).1⟩
  · have CK := Lib.hid (fun w => check_no W H T E O h w)
    have HK := Lib.hid (Me.start w r c W H T E O p)
    clear h
    go_enter Try.func6, Try.ntmps6
    go_wp2_with fail
    refine (CK.out _).mono ?_
    rintro e w1 ⟨rfl, b5⟩
    have K := Lib.hid (HK.out _ b5)
    go_wp2_with fail
    refine (awake_any _).mono ?_
    rintro e w2 ⟨rfl, b2⟩
    go_wp2
    go_ret
    exact ⟨rfl, (K.out.below b2).1⟩

end Go.Proofs.Yteenjjiobibokaa
