/-
  The statement of layer 11 on the special graphics: the walk.
-/
import Derived.Test.YtgnkbcflkalhjaaDoorMoMem
import Derived.Test.YtgnkbcflkalhjaaDoorMoWidth
import Derived.Deep.RegionHeld3
namespace Go.Proofs.YtgnkbcflkalhjaaDoor
open Go.RowKit Mo


theorem in_any (r : Int) (q : Bool) (hq : (decide (95 ≤ r) && decide (r ≤ 126)) = q) (w : World) : Calls Tryd.prog 24 #[.int .i32 r] w fun e w' => e = .returned (.bool q) ∧ w = w' := by
  subst hq
  by_cases h1 : 95 ≤ r <;> by_cases h2 : r ≤ 126
  all_goals
    go_enter Tryd.func24, Tryd.ntmps24
    go_wp2
    go_ret
    exact ⟨ret_bool (by simp [h1, h2]), rfl⟩

theorem tab_wide : ∀ k, k < 32 → 160 ≤ tab.getD k 0 ∧ Chw.Cw.wd (tab.getD k 0) = 1 := by decide +kernel
theorem tab_differ : ∀ k, k < 32 → ∀ j, j < 32 → tab.getD k 0 = tab.getD j 0 → k = j := by decide +kernel

set_option maxHeartbeats 4000000 in
set_option maxRecDepth 100000 in
theorem graphics_gen (m d1 g d2 p : M) (a b x y : Int) (ia ib : Bool) (w : World) (hT : Tb w) (h1 : desig m ⟨#[41]⟩ 48 = d1) (h2 : shift d1 1 = g) (h3 : desig m ⟨#[40]⟩ 66 = d2) (h4 : shift d2 0 = p)
    (h5 : mapc (act p) a = a) (h6 : mapc (act g) a = x) (h7 : mapc (act g) b = y) (h8 : (decide (95 ≤ a) && decide (a ≤ 126)) = ia) (h9 : (decide (95 ≤ b) && decide (b ≤ 126)) = ib)
    (f1 : ia = false → x = a) (f2 : ia = true → ¬ x < 160 ∧ Chw.Cw.wd x = 1) (f3 : ia = true → ib = true → (a == b) = (x == y)) :
    Calls Tryd.prog 9 #[.agg #[.bool m.f0, .bool m.f1, .bool m.f2, .bool m.f3, .bool m.f4, .bool m.f5, .bool m.f6, .bool m.f7, .int .u8 m.s0, .int .u8 m.s1, .int .i64 m.sh], .int .i32 a, .int .i32 b] w fun e w' => e = .returned (.bool true) ∧ Below w.heap.size w w' := by
  have G1 := Lib.hid (fun U => desig_any m ⟨#[41]⟩ 48 U)
  have G2 := Lib.hid (fun U => shift_any d1 1 U)
  have G3 := Lib.hid (fun U => desig_any m ⟨#[40]⟩ 66 U)
  have G4 := Lib.hid (fun U => shift_any d2 0 U)
  rw [h1] at G1
  rw [h2] at G2
  rw [h3] at G3
  rw [h4] at G4
  have G5 := Lib.hid (map_at hT p a a h5)
  have G6 := Lib.hid (map_at hT g a x h6)
  have G7 := Lib.hid (map_at hT g b y h7)
  have G8 := Lib.hid (in_any a ia h8)
  have G9 := Lib.hid (in_any b ib h9)
  have GA := Lib.hid (awake_at hT)
  have GW := Lib.hid (fun U => Chw.width_any x U)
  have F1 := Lib.hid f1
  have F2 := Lib.hid f2
  have F3 := Lib.hid f3
  have ea : (a != a) = false := by simp
  have K0 := Lib.hid (Mm.start w m)
  obtain ⟨u0, u1, u2, u3, u4, u5, u6, u7, u8, u9, u10⟩ := (K0.out.at 0 rfl).all
  clear hT h1 h2 h3 h4 h5 h6 h7 h8 h9 f1 f2 f3
  go_enter Tryd.func9, Tryd.ntmps9
  go_wp2_with fail
  clear u0 u1 u2 u3 u4 u5 u6 u7 u8 u9 u10
  generalize w.alloc (.cells #[.bool m.f0, .bool m.f1, .bool m.f2, .bool m.f3, .bool m.f4, .bool m.f5, .bool m.f6, .bool m.f7, .int .u8 m.s0, .int .u8 m.s1, .int .i64 m.sh] 24) = y0 at K0 ⊢
  refine (G1.out _).mono ?_
  rintro e w1 ⟨rfl, b1⟩
  have K1 := Lib.hid (K0.out.below b1)
  clear b1 K0 G1
  go_wp2_with fail
  refine (G2.out _).mono ?_
  rintro e w2 ⟨rfl, b2⟩
  have K2 := Lib.hid ((K1.out.below b2).more g)
  obtain ⟨u0, u1, u2, u3, u4, u5, u6, u7, u8, u9, u10⟩ := (K2.out.at 0 rfl).all
  clear b2 K1 G2
  go_wp2_with fail
  clear u0 u1 u2 u3 u4 u5 u6 u7 u8 u9 u10
  generalize w2.alloc (.cells #[.bool g.f0, .bool g.f1, .bool g.f2, .bool g.f3, .bool g.f4, .bool g.f5, .bool g.f6, .bool g.f7, .int .u8 g.s0, .int .u8 g.s1, .int .i64 g.sh] 24) = y2 at K2 ⊢
  generalize w2.heap.size = k1 at K2 ⊢
  refine (G3.out _).mono ?_
  rintro e w3 ⟨rfl, b3⟩
  have K3 := Lib.hid (K2.out.below b3)
  clear b3 K2 G3
  go_wp2_with fail
  refine (G4.out _).mono ?_
  rintro e w4 ⟨rfl, b4⟩
  have K4 := Lib.hid ((K3.out.below b4).more p)
  obtain ⟨u0, u1, u2, u3, u4, u5, u6, u7, u8, u9, u10⟩ := (K4.out.at 2 rfl).all
  clear b4 K3 G4
  go_wp2_with fail
  clear u0 u1 u2 u3 u4 u5 u6 u7 u8 u9 u10
  generalize w4.alloc (.cells #[.bool p.f0, .bool p.f1, .bool p.f2, .bool p.f3, .bool p.f4, .bool p.f5, .bool p.f6, .bool p.f7, .int .u8 p.s0, .int .u8 p.s1, .int .i64 p.sh] 24) = y4 at K4 ⊢
  generalize w4.heap.size = k2 at K4 ⊢
  refine (G5.out _ K4.out.1).mono ?_
  rintro e w5 ⟨rfl, b5⟩
  have K5 := Lib.hid (K4.out.below b5)
  clear b5 K4 G5
  go_wp2_with fail
  clear ea
  have key0 : ∀ U, Mm w U [(w.heap.size, m), (k1, g), (k2, p)] → (U.cell? ⟨k1, 0, none⟩ = some (.bool g.f0) ∧ U.cell? ⟨k1, 1, none⟩ = some (.bool g.f1) ∧ U.cell? ⟨k1, 2, none⟩ = some (.bool g.f2) ∧ U.cell? ⟨k1, 3, none⟩ = some (.bool g.f3) ∧ U.cell? ⟨k1, 4, none⟩ = some (.bool g.f4) ∧ U.cell? ⟨k1, 5, none⟩ = some (.bool g.f5) ∧ U.cell? ⟨k1, 6, none⟩ = some (.bool g.f6) ∧ U.cell? ⟨k1, 7, none⟩ = some (.bool g.f7) ∧ U.cell? ⟨k1, 8, none⟩ = some (.int .u8 g.s0) ∧ U.cell? ⟨k1, 9, none⟩ = some (.int .u8 g.s1) ∧ U.cell? ⟨k1, 10, none⟩ = some (.int .i64 g.sh) ∧ Aside (Mm w U [(w.heap.size, m), (k1, g), (k2, p)])) := fun U k => by
    obtain ⟨a1_0, a1_1, a1_2, a1_3, a1_4, a1_5, a1_6, a1_7, a1_8, a1_9, a1_10⟩ := (k.at 1 rfl).all
    exact ⟨a1_0, a1_1, a1_2, a1_3, a1_4, a1_5, a1_6, a1_7, a1_8, a1_9, a1_10, k⟩
  have HKEEP : Hid (∀ (U U' : World), (U.cell? ⟨k1, 0, none⟩ = some (.bool g.f0) ∧ U.cell? ⟨k1, 1, none⟩ = some (.bool g.f1) ∧ U.cell? ⟨k1, 2, none⟩ = some (.bool g.f2) ∧ U.cell? ⟨k1, 3, none⟩ = some (.bool g.f3) ∧ U.cell? ⟨k1, 4, none⟩ = some (.bool g.f4) ∧ U.cell? ⟨k1, 5, none⟩ = some (.bool g.f5) ∧ U.cell? ⟨k1, 6, none⟩ = some (.bool g.f6) ∧ U.cell? ⟨k1, 7, none⟩ = some (.bool g.f7) ∧ U.cell? ⟨k1, 8, none⟩ = some (.int .u8 g.s0) ∧ U.cell? ⟨k1, 9, none⟩ = some (.int .u8 g.s1) ∧ U.cell? ⟨k1, 10, none⟩ = some (.int .i64 g.sh) ∧ Aside (Mm w U [(w.heap.size, m), (k1, g), (k2, p)])) → Below U.heap.size U U' → (U'.cell? ⟨k1, 0, none⟩ = some (.bool g.f0) ∧ U'.cell? ⟨k1, 1, none⟩ = some (.bool g.f1) ∧ U'.cell? ⟨k1, 2, none⟩ = some (.bool g.f2) ∧ U'.cell? ⟨k1, 3, none⟩ = some (.bool g.f3) ∧ U'.cell? ⟨k1, 4, none⟩ = some (.bool g.f4) ∧ U'.cell? ⟨k1, 5, none⟩ = some (.bool g.f5) ∧ U'.cell? ⟨k1, 6, none⟩ = some (.bool g.f6) ∧ U'.cell? ⟨k1, 7, none⟩ = some (.bool g.f7) ∧ U'.cell? ⟨k1, 8, none⟩ = some (.int .u8 g.s0) ∧ U'.cell? ⟨k1, 9, none⟩ = some (.int .u8 g.s1) ∧ U'.cell? ⟨k1, 10, none⟩ = some (.int .i64 g.sh) ∧ Aside (Mm w U' [(w.heap.size, m), (k1, g), (k2, p)]))) := Lib.hid (fun U U' hs hu => key0 U' (hs.2.2.2.2.2.2.2.2.2.2.2.out.below hu))
  have hS := key0 w5.drew (K5.out.below (Below.refl _ _).drew)
  clear key0
  clear K5
  refine wp_region_held_drew (S := fun U => U.cell? ⟨k1, 0, none⟩ = some (.bool g.f0) ∧ U.cell? ⟨k1, 1, none⟩ = some (.bool g.f1) ∧ U.cell? ⟨k1, 2, none⟩ = some (.bool g.f2) ∧ U.cell? ⟨k1, 3, none⟩ = some (.bool g.f3) ∧ U.cell? ⟨k1, 4, none⟩ = some (.bool g.f4) ∧ U.cell? ⟨k1, 5, none⟩ = some (.bool g.f5) ∧ U.cell? ⟨k1, 6, none⟩ = some (.bool g.f6) ∧ U.cell? ⟨k1, 7, none⟩ = some (.bool g.f7) ∧ U.cell? ⟨k1, 8, none⟩ = some (.int .u8 g.s0) ∧ U.cell? ⟨k1, 9, none⟩ = some (.int .u8 g.s1) ∧ U.cell? ⟨k1, 10, none⟩ = some (.int .i64 g.sh) ∧ Aside (Mm w U [(w.heap.size, m), (k1, g), (k2, p)])) (by kernel_rfl) hS (fun hHeld => ?_)
  clear hS
  refine wpAnyH_take (i := 0) (v := ?_) rfl (by kernel_rfl) (by kernel_rfl) (by kernel_rfl) (fun _ _ _ h => h) (Or.inl ⟨by rfl, ?_⟩) (by assumption) ?_
  rotate_left
  · (intro W hSw; (try dsimp only at hSw); go_simp; try with_reducible rfl)
  simp only [Act.put, List.getElem_toArray, List.getElem_cons_zero, List.setIfInBounds_toArray, List.set_cons_zero, List.set_cons_succ]
  refine wpAnyH_take (i := 1) (v := ?_) rfl (by kernel_rfl) (by kernel_rfl) (by kernel_rfl) (fun _ _ _ h => h) (Or.inl ⟨by rfl, ?_⟩) (by assumption) ?_
  rotate_left
  · (intro W hSw; (try dsimp only at hSw); go_simp; try with_reducible rfl)
  simp only [Act.put, List.getElem_toArray, List.getElem_cons_succ, List.getElem_cons_zero, List.setIfInBounds_toArray, List.set_cons_zero, List.set_cons_succ]
  refine wpAnyH_take (i := 3) (v := ?_) rfl (by kernel_rfl) (by kernel_rfl) (by kernel_rfl) (fun _ _ _ h => h) (Or.inl ⟨by rfl, ?_⟩) (by assumption) ?_
  rotate_left
  · (intro W hSw; (try dsimp only at hSw); go_simp; try with_reducible rfl)
  simp only [Act.put, List.getElem_toArray, List.getElem_cons_succ, List.getElem_cons_zero, List.setIfInBounds_toArray, List.set_cons_zero, List.set_cons_succ]
  refine wpAnyH_take (i := 4) (v := ?_) rfl (by kernel_rfl) (by kernel_rfl) (by kernel_rfl) (fun _ _ _ h => h) (Or.inl ⟨by rfl, ?_⟩) (by assumption) ?_
  rotate_left
  · (intro W hSw; (try dsimp only at hSw); go_simp; try with_reducible rfl)
  simp only [Act.put, List.getElem_toArray, List.getElem_cons_succ, List.getElem_cons_zero, List.setIfInBounds_toArray, List.set_cons_zero, List.set_cons_succ]
  refine wpAnyH_ready (rs := [2]) (by kernel_rfl) (by simp) ?_
  refine AllReadyH.cons rfl (fun K hK => ?_) AllReadyH.nil
  go_simp
  have hU := hHeld.2.2.2.2.2.2.2.2.2.2.2.out.1; (with_reducible refine (G6.out _ hU).mono ?_); clear hU; rintro e w' ⟨rfl, hb'⟩; have hs' := HKEEP.out _ _ hHeld hb'; clear hHeld hb'
  refine hK.out _ _ hs' (fun hHeld => ?_)
  clear hK K hs'
  refine wpAnyH_ready (rs := [5]) (by kernel_rfl) (by simp) ?_
  refine AllReadyH.cons rfl (fun K hK => ?_) AllReadyH.nil
  go_simp
  have hU := hHeld.2.2.2.2.2.2.2.2.2.2.2.out.1; (with_reducible refine (G7.out _ hU).mono ?_); clear hU; rintro e w' ⟨rfl, hb'⟩; have hs' := HKEEP.out _ _ hHeld hb'; clear hHeld hb'
  refine hK.out _ _ hs' (fun hHeld => ?_)
  clear hK K hs'
  refine wpAnyH_take (i := 6) (v := ?_) rfl (by kernel_rfl) (by kernel_rfl) (by kernel_rfl) (fun _ _ _ h => h) (Or.inl ⟨by rfl, ?_⟩) (by assumption) ?_
  rotate_left
  · (intro W hSw; (try dsimp only at hSw); go_simp; try with_reducible rfl)
  simp only [Act.put, List.getElem_toArray, List.getElem_cons_succ, List.getElem_cons_zero, List.setIfInBounds_toArray, List.set_cons_zero, List.set_cons_succ]
  refine wpAnyH_take (i := 7) (v := ?_) rfl (by kernel_rfl) (by kernel_rfl) (by kernel_rfl) (fun _ _ _ h => h) (Or.inl ⟨by rfl, ?_⟩) (by assumption) ?_
  rotate_left
  · (intro W hSw; (try dsimp only at hSw); go_simp; try with_reducible rfl)
  simp only [Act.put, List.getElem_toArray, List.getElem_cons_succ, List.getElem_cons_zero, List.setIfInBounds_toArray, List.set_cons_zero, List.set_cons_succ]
  refine wpAnyH_done (by kernel_rfl) ?_ _
  have B6 := Lib.hid (hHeld.2.2.2.2.2.2.2.2.2.2.2.out.1)
  clear hHeld G6 G7 HKEEP
  go_wp2_with fail
  refine (G8.out _).mono ?_
  rintro e w7 ⟨rfl, rfl⟩
  cases ia with
  | false =>
    have exa : (x == a) = true := by simpa using F1.out rfl
    clear F1 F2 F3 G8 G9 GW
    go_wp2_with fail
    refine (GA.out _ B6.out).mono ?_
    rintro e w8 ⟨rfl, b8⟩
    have B8 := Lib.hid (below_step B6.out b8)
    clear b8 B6 GA
    go_wp2
    go_ret
    exact ⟨rfl, B8.out⟩
  | true =>
    have lx := (F2.out rfl).1
    have GW' := Lib.hid (fun U => GW.out U)
    rw [(F2.out rfl).2] at GW'
    have FQ := Lib.hid (F3.out rfl)
    clear F1 F2 F3 G8 GW
    go_wp2_with fail
    refine (GW'.out _).mono ?_
    rintro e w8 ⟨rfl, b8⟩
    have B8 := Lib.hid (below_step B6.out b8)
    clear b8 B6 GW'
    go_wp2_with fail
    refine (G9.out _).mono ?_
    rintro e w9 ⟨rfl, rfl⟩
    cases ib with
    | false =>
      clear FQ
      go_wp2_with fail
      refine (GA.out _ B8.out).mono ?_
      rintro e w9 ⟨rfl, b9⟩
      have B9 := Lib.hid (below_step B8.out b9)
      clear b9 B8 GA
      go_wp2
      go_ret
      exact ⟨rfl, B9.out⟩
    | true =>
      obtain ⟨q, hq⟩ : ∃ q, (x == y) = q := ⟨_, rfl⟩
      have e1 : (a == b) = q := (FQ.out rfl).trans hq
      have e2 : (q == q) = true := by simp
      clear FQ
      go_wp2_with fail
      refine (GA.out _ B8.out).mono ?_
      rintro e w9 ⟨rfl, b9⟩
      have B9 := Lib.hid (below_step B8.out b9)
      clear b9 B8 GA
      go_wp2
      go_ret
      exact ⟨rfl, B9.out⟩

theorem graphics_walk (m : M) (a b : Int) (w : World) (hT : Tb w) :
    Calls Tryd.prog 9 #[.agg #[.bool m.f0, .bool m.f1, .bool m.f2, .bool m.f3, .bool m.f4, .bool m.f5, .bool m.f6, .bool m.f7, .int .u8 m.s0, .int .u8 m.s1, .int .i64 m.sh], .int .i32 a, .int .i32 b] w fun e w' => e = .returned (.bool true) ∧ Below w.heap.size w w' := by
  have e1 : desig m ⟨#[41]⟩ 48 = { m with s1 := 48 } := by unfold desig; rw [if_pos (.inr rfl), if_neg (by decide), if_pos rfl]
  have e2 : shift { m with s1 := 48 } 1 = { m with s1 := 48, sh := 1 } := if_pos (.inr rfl)
  have e3 : desig m ⟨#[40]⟩ 66 = { m with s0 := 66 } := by unfold desig; rw [if_pos (.inl rfl), if_pos rfl]
  have e4 : shift { m with s0 := 66 } 0 = { m with s0 := 66, sh := 0 } := if_pos (.inl rfl)
  have ag : act { m with s1 := 48, sh := 1 } = 48 := rfl
  have ap : act { m with s0 := 66, sh := 0 } = 66 := rfl
  have out : ∀ r, ¬ (95 ≤ r ∧ r ≤ 126) → mapc 48 r = r := fun r h => if_neg (fun e => h e.2)
  have inn : ∀ r, (95 ≤ r ∧ r ≤ 126) → mapc 48 r = tab.getD (r - 95).toNat 0 := fun r h => if_pos ⟨rfl, h⟩
  refine graphics_gen m _ _ _ _ a b _ _ _ _ w hT e1 e2 e3 e4 ?_ rfl rfl rfl rfl ?_ ?_ ?_
  · rw [ap]
    exact if_neg (fun e => by omega)
  · intro h
    rw [ag]
    simp at h
    exact out a (by omega)
  · intro h
    simp at h
    rw [ag, inn a h]
    have := tab_wide (a - 95).toNat (by omega)
    exact ⟨by omega, this.2⟩
  · intro h h'
    simp at h h'
    rw [ag, inn a h, inn b h']
    by_cases e : a = b
    · subst e
      simp
    · have : ¬ tab.getD (a - 95).toNat 0 = tab.getD (b - 95).toNat 0 := fun e' => by
        have := tab_differ _ (by omega) _ (by omega) e'
        omega
      have g1 : (a == b) = false := by simp [e]
      have g2 : (tab.getD (a - 95).toNat 0 == tab.getD (b - 95).toNat 0) = false := beq_eq_false_iff_ne.2 this
      rw [g1, g2]

end Go.Proofs.YtgnkbcflkalhjaaDoor
