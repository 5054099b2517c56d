/-
  The statement on the round trip returns true, for every two renditions.
-/
import Derived.Test.YtodcjdglnfgdpaaDoorAwake
import Derived.Test.YtodcjdglnfgdpaaDoorAtMore
namespace Go.Proofs.YtodcjdglnfgdpaaDoor
open Go.RowKit

theorem two_boxes (w : World) (a b : At.R) (hT : Tb w) :
    Rec ((w.alloc (.cells #[.int .i64 a.f, .int .i64 a.b, .int .i64 a.g] 23)).alloc (.cells #[.int .i64 b.f, .int .i64 b.b, .int .i64 b.g] 23)) w.heap.size a ∧
    Rec ((w.alloc (.cells #[.int .i64 a.f, .int .i64 a.b, .int .i64 a.g] 23)).alloc (.cells #[.int .i64 b.f, .int .i64 b.b, .int .i64 b.g] 23)) (w.heap.size + 1) b ∧
    Below w.heap.size w ((w.alloc (.cells #[.int .i64 a.f, .int .i64 a.b, .int .i64 a.g] 23)).alloc (.cells #[.int .i64 b.f, .int .i64 b.b, .int .i64 b.g] 23)) ∧
    Tb ((w.alloc (.cells #[.int .i64 a.f, .int .i64 a.b, .int .i64 a.g] 23)).alloc (.cells #[.int .i64 b.f, .int .i64 b.b, .int .i64 b.g] 23)) := by
  have h1 := (Rec.laid w a).alloc (.cells #[.int .i64 b.f, .int .i64 b.b, .int .i64 b.g] 23)
  have h2 := Rec.laid (w.alloc (.cells #[.int .i64 a.f, .int .i64 a.b, .int .i64 a.g] 23)) b
  rw [World.size_alloc] at h2
  have h3 := ((Below.refl w.heap.size w).alloc (Nat.le_refl _) (.cells #[.int .i64 a.f, .int .i64 a.b, .int .i64 a.g] 23)).alloc (by simp) (.cells #[.int .i64 b.f, .int .i64 b.b, .int .i64 b.g] 23)
  exact ⟨h1, h2, h3, hT.below h3 (Nat.le_refl _)⟩
theorem one_box (w : World) (a : At.R) (hT : Tb w) :
    Rec (w.alloc (.cells #[.int .i64 a.f, .int .i64 a.b, .int .i64 a.g] 23)) w.heap.size a ∧ Below w.heap.size w (w.alloc (.cells #[.int .i64 a.f, .int .i64 a.b, .int .i64 a.g] 23)) ∧ Tb (w.alloc (.cells #[.int .i64 a.f, .int .i64 a.b, .int .i64 a.g] 23)) := by
  have h3 := (Below.refl w.heap.size w).alloc (Nat.le_refl _) (.cells #[.int .i64 a.f, .int .i64 a.b, .int .i64 a.g] 23)
  exact ⟨Rec.laid w a, h3, hT.below h3 (Nat.le_refl _)⟩

set_option maxHeartbeats 4000000 in
set_option maxRecDepth 100000 in
theorem round_walk (a b : At.R) (w : World) (hT : Tb w) :
    Calls Tryd.prog 5 #[av a, av b] w fun e w' => e = .returned (.bool true) ∧ Below w.heap.size w w' := by
  have eq1 := Tryd.stoodInHeld23
  have eq2 := Tryd.eqGuardType23
  have h0 := two_boxes w a b hT
  by_cases ha : At.ok a
  · by_cases hb : At.ok b
    · have HA := Lib.hid ha
      have cA := Lib.hid (fun W h => check_yes a W h ha)
      have cB := Lib.hid (fun W h => check_yes b W h hb)
      have cP := Lib.hid (fun W h => params_any a W h ha)
      have hlen := At.params_len ha
      have HP := Lib.hid (At.params_range ha)
      have HR := Lib.hid (At.apply_params ha b)
      generalize At.params a = xs at cP hlen HP HR
      obtain ⟨f, c, g⟩ := a
      obtain ⟨f', c', g'⟩ := b
      clear ha hb
      simp only at h0
      have H0 := Lib.hid h0
      clear h0
      go_enter Tryd.func5, Tryd.ntmps5
      go_wp2_with fail
      generalize (w.alloc (.cells #[.int .i64 f, .int .i64 c, .int .i64 g] 23)).alloc (.cells #[.int .i64 f', .int .i64 c', .int .i64 g'] 23) = W0 at H0 ⊢
      refine (cA.out W0 H0.out.2.2.2).mono ?_
      rintro e w1 ⟨rfl, b1⟩
      have H1 := Lib.hid (And.intro (H0.out.1.below b1) (And.intro (H0.out.2.1.below b1) (And.intro (H0.out.2.2.1.trans (b1.mono H0.out.2.2.1.size)) (H0.out.2.2.2.below b1 (Nat.le_refl _)))))
      have z0 := H1.out.2.1.c0
      have z1 := H1.out.2.1.c1
      have z2 := H1.out.2.1.c2
      clear b1 H0
      go_wp2_with fail
      refine (cB.out w1 H1.out.2.2.2).mono ?_
      rintro e w2 ⟨rfl, b2⟩
      have H2 := Lib.hid (And.intro (H1.out.1.below b2) (And.intro (H1.out.2.1.below b2) (And.intro (H1.out.2.2.1.trans (b2.mono H1.out.2.2.1.size)) (H1.out.2.2.2.below b2 (Nat.le_refl _)))))
      clear b2 H1 z0 z1 z2
      have z0 := H2.out.1.c0
      have z1 := H2.out.1.c1
      have z2 := H2.out.1.c2
      go_wp2_with fail
      refine (cP.out w2 H2.out.2.2.2).mono ?_
      rintro e w3 ⟨A, n, cap, rfl, g3⟩
      clear z0 z1 z2
      have hn1 : n ≤ 15 := by have := g3.length; omega
      have zn : (n : Int) ≤ 15 := by omega
      have K3 := g3.2.1
      have hS : Rec w3 w.heap.size ⟨f, c, g⟩ ∧ Rec w3 (w.heap.size + 1) ⟨f', c', g'⟩ ∧ Below w.heap.size w w3 ∧ Tb w3 ∧ w3.heap.size ≤ w3.heap.size ∧ Nums w3 w3.heap.size A n xs :=
        ⟨H2.out.1.below g3.2.2, H2.out.2.1.below g3.2.2, H2.out.2.2.1.trans (g3.2.2.mono H2.out.2.2.1.size), H2.out.2.2.2.below g3.2.2 (Nat.le_refl _), Nat.le_refl _, g3.1⟩
      obtain ⟨K, hK⟩ : ∃ K : World → Prop, K = fun W => Rec W w.heap.size ⟨f, c, g⟩ ∧ Rec W (w.heap.size + 1) ⟨f', c', g'⟩ ∧ Below w.heap.size w W ∧ Tb W ∧ w3.heap.size ≤ W.heap.size ∧ Nums W w3.heap.size A n xs := ⟨_, rfl⟩
      have HK := Lib.hid hK
      have kd : ∀ W : World, K W → K W.drew := fun W h => by rw [HK.out] at h ⊢; exact ⟨h.1, h.2.1, h.2.2.1.drew, h.2.2.2.1, h.2.2.2.2⟩
      have k3 : K w3 := by rw [HK.out]; exact hS
      have keep : ∀ {W W' : World}, (W.cell? ⟨w.heap.size, 0, none⟩ = some (.int .i64 f) ∧ W.cell? ⟨w.heap.size, 1, none⟩ = some (.int .i64 c) ∧ W.cell? ⟨w.heap.size, 2, none⟩ = some (.int .i64 g) ∧ W.cell? ⟨w.heap.size + 1, 0, none⟩ = some (.int .i64 f') ∧ W.cell? ⟨w.heap.size + 1, 1, none⟩ = some (.int .i64 c') ∧ W.cell? ⟨w.heap.size + 1, 2, none⟩ = some (.int .i64 g') ∧ Aside (K W)) → Below W.heap.size W W' →
          (W'.cell? ⟨w.heap.size, 0, none⟩ = some (.int .i64 f) ∧ W'.cell? ⟨w.heap.size, 1, none⟩ = some (.int .i64 c) ∧ W'.cell? ⟨w.heap.size, 2, none⟩ = some (.int .i64 g) ∧ W'.cell? ⟨w.heap.size + 1, 0, none⟩ = some (.int .i64 f') ∧ W'.cell? ⟨w.heap.size + 1, 1, none⟩ = some (.int .i64 c') ∧ W'.cell? ⟨w.heap.size + 1, 2, none⟩ = some (.int .i64 g') ∧ Aside (K W')) := by
        intro W W' h hb
        have q := h.2.2.2.2.2.2.out
        rw [HK.out] at q
        have q' : K W' := by
          rw [HK.out]
          exact ⟨q.1.below hb, q.2.1.below hb, q.2.2.1.trans (hb.mono q.2.2.1.size), q.2.2.2.1.below hb (Nat.le_refl _), Nat.le_trans q.2.2.2.2.1 hb.size, q.2.2.2.2.2.below hb q.2.2.2.2.1⟩
        exact ⟨(q.1.below hb).c0, (q.1.below hb).c1, (q.1.below hb).c2, (q.2.1.below hb).c0, (q.2.1.below hb).c1, (q.2.1.below hb).c2, q'⟩
      have hcA : ∀ W : World, (W.cell? ⟨w.heap.size, 0, none⟩ = some (.int .i64 f) ∧ W.cell? ⟨w.heap.size, 1, none⟩ = some (.int .i64 c) ∧ W.cell? ⟨w.heap.size, 2, none⟩ = some (.int .i64 g) ∧ W.cell? ⟨w.heap.size + 1, 0, none⟩ = some (.int .i64 f') ∧ W.cell? ⟨w.heap.size + 1, 1, none⟩ = some (.int .i64 c') ∧ W.cell? ⟨w.heap.size + 1, 2, none⟩ = some (.int .i64 g') ∧ Aside (K W)) → Calls Tryd.prog 13 #[.agg #[.int .i64 f', .int .i64 c', .int .i64 g'], .slice A n cap] W fun e w' => e = .returned (.agg #[.int .i64 f, .int .i64 c, .int .i64 g]) ∧ Below W.heap.size W w' := by
        intro W h
        have q := h.2.2.2.2.2.2.out
        rw [HK.out] at q
        have := apply_any A n cap w3.heap.size xs ⟨f', c', g'⟩ W q.2.2.2.2.1 q.2.2.2.2.2 K3 (by omega) (fun z hz => by have := HP.out z hz; omega) q.2.2.2.1
        rw [HR.out] at this
        exact this
      have hcW : ∀ W : World, (W.cell? ⟨w.heap.size, 0, none⟩ = some (.int .i64 f) ∧ W.cell? ⟨w.heap.size, 1, none⟩ = some (.int .i64 c) ∧ W.cell? ⟨w.heap.size, 2, none⟩ = some (.int .i64 g) ∧ W.cell? ⟨w.heap.size + 1, 0, none⟩ = some (.int .i64 f') ∧ W.cell? ⟨w.heap.size + 1, 1, none⟩ = some (.int .i64 c') ∧ W.cell? ⟨w.heap.size + 1, 2, none⟩ = some (.int .i64 g') ∧ Aside (K W)) → Calls Tryd.prog 12 #[] W fun e w' => e = .returned (.bool true) ∧ Below W.heap.size W w' := by
        intro W h
        have q := h.2.2.2.2.2.2.out
        rw [HK.out] at q
        exact awake_any W q.2.2.2.1
      have hfin : ∀ W : World, (W.cell? ⟨w.heap.size, 0, none⟩ = some (.int .i64 f) ∧ W.cell? ⟨w.heap.size, 1, none⟩ = some (.int .i64 c) ∧ W.cell? ⟨w.heap.size, 2, none⟩ = some (.int .i64 g) ∧ W.cell? ⟨w.heap.size + 1, 0, none⟩ = some (.int .i64 f') ∧ W.cell? ⟨w.heap.size + 1, 1, none⟩ = some (.int .i64 c') ∧ W.cell? ⟨w.heap.size + 1, 2, none⟩ = some (.int .i64 g') ∧ Aside (K W)) → Below w.heap.size w W := by
        intro W h
        have q := h.2.2.2.2.2.2.out
        rw [HK.out] at q
        exact q.2.2.1
      have hS3 : w3.drew.cell? ⟨w.heap.size, 0, none⟩ = some (.int .i64 f) ∧ w3.drew.cell? ⟨w.heap.size, 1, none⟩ = some (.int .i64 c) ∧ w3.drew.cell? ⟨w.heap.size, 2, none⟩ = some (.int .i64 g) ∧ w3.drew.cell? ⟨w.heap.size + 1, 0, none⟩ = some (.int .i64 f') ∧ w3.drew.cell? ⟨w.heap.size + 1, 1, none⟩ = some (.int .i64 c') ∧ w3.drew.cell? ⟨w.heap.size + 1, 2, none⟩ = some (.int .i64 g') ∧ Aside (K w3.drew) :=
        ⟨hS.1.c0, hS.1.c1, hS.1.c2, hS.2.1.c0, hS.2.1.c1, hS.2.1.c2, kd w3 k3⟩
      clear hS k3 kd hK g3 H2 cA cB cP
      go_wp2_with fail
      go_region_held3 (fun W => W.cell? ⟨w.heap.size, 0, none⟩ = some (.int .i64 f) ∧ W.cell? ⟨w.heap.size, 1, none⟩ = some (.int .i64 c) ∧ W.cell? ⟨w.heap.size, 2, none⟩ = some (.int .i64 g) ∧ W.cell? ⟨w.heap.size + 1, 0, none⟩ = some (.int .i64 f') ∧ W.cell? ⟨w.heap.size + 1, 1, none⟩ = some (.int .i64 c') ∧ W.cell? ⟨w.heap.size + 1, 2, none⟩ = some (.int .i64 g') ∧ Aside (K W))
        (assumption)
        (first | (go_at_call 13; refine (hcA _ (by assumption)).mono ?_; rintro e w' ⟨rfl, hb'⟩; have hs' := keep (by assumption) hb') | (go_at_call 12; refine (hcW _ (by assumption)).mono ?_; rintro e w' ⟨rfl, hb'⟩; have hs' := keep (by assumption) hb'))
      go_wp2
      go_ret
      exact ⟨rfl, hfin _ hs'⟩
    · have cA := Lib.hid (fun W h => check_yes a W h ha)
      have cB := Lib.hid (fun W h => check_no b W h hb)
      obtain ⟨f, c, g⟩ := a
      obtain ⟨f', c', g'⟩ := b
      clear ha hb
      simp only at h0
      have H0 := Lib.hid h0
      clear h0
      go_enter Tryd.func5, Tryd.ntmps5
      go_wp2_with fail
      generalize (w.alloc (.cells #[.int .i64 f, .int .i64 c, .int .i64 g] 23)).alloc (.cells #[.int .i64 f', .int .i64 c', .int .i64 g'] 23) = W0 at H0 ⊢
      refine (cA.out W0 H0.out.2.2.2).mono ?_
      rintro e w1 ⟨rfl, b1⟩
      have H1 := Lib.hid (And.intro (H0.out.1.below b1) (And.intro (H0.out.2.1.below b1) (And.intro (H0.out.2.2.1.trans (b1.mono H0.out.2.2.1.size)) (H0.out.2.2.2.below b1 (Nat.le_refl _)))))
      have z0 := H1.out.2.1.c0
      have z1 := H1.out.2.1.c1
      have z2 := H1.out.2.1.c2
      clear b1 H0
      go_wp2_with fail
      refine (cB.out w1 H1.out.2.2.2).mono ?_
      rintro e w2 ⟨rfl, b2⟩
      have T2 := H1.out.2.2.2.below b2 (Nat.le_refl _)
      have B2 := H1.out.2.2.1.trans (b2.mono H1.out.2.2.1.size)
      go_wp2_with fail
      refine (awake_any w2 T2).mono ?_
      rintro e w3 ⟨rfl, b3⟩
      go_wp2
      go_ret
      exact ⟨rfl, B2.trans (b3.mono B2.size)⟩
  · have cA := Lib.hid (fun W h => check_no a W h ha)
    obtain ⟨f, c, g⟩ := a
    obtain ⟨f', c', g'⟩ := b
    clear ha
    simp only at h0
    have H0 := Lib.hid h0
    clear h0
    go_enter Tryd.func5, Tryd.ntmps5
    go_wp2_with fail
    generalize (w.alloc (.cells #[.int .i64 f, .int .i64 c, .int .i64 g] 23)).alloc (.cells #[.int .i64 f', .int .i64 c', .int .i64 g'] 23) = W0 at H0 ⊢
    refine (cA.out W0 H0.out.2.2.2).mono ?_
    rintro e w2 ⟨rfl, b2⟩
    have T2 := H0.out.2.2.2.below b2 (Nat.le_refl _)
    have B2 := H0.out.2.2.1.trans (b2.mono H0.out.2.2.1.size)
    go_wp2_with fail
    refine (awake_any w2 T2).mono ?_
    rintro e w3 ⟨rfl, b3⟩
    go_wp2
    go_ret
    exact ⟨rfl, B2.trans (b3.mono B2.size)⟩

end Go.Proofs.YtodcjdglnfgdpaaDoor
