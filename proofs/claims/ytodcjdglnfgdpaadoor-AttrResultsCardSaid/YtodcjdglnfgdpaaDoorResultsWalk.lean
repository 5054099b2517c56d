/-
  The statement on Check, Params, Style and Default returns true, for every rendition.
-/
import Derived.Test.YtodcjdglnfgdpaaDoorRefParams
namespace Go.Proofs.YtodcjdglnfgdpaaDoor
open Go.RowKit

set_option maxHeartbeats 4000000 in
set_option maxRecDepth 100000 in
theorem results_walk (a : At.R) (w : World) (hT : Tb w) :
    Calls Tryd.prog 4 #[av a] w fun e w' => e = .returned (.bool true) ∧ Below w.heap.size w w' := by
  have eq1 := Tryd.stoodInHeld23
  have eq2 := Tryd.eqGuardType23
  have h0 := (Ke.start hT).more a
  rw [List.nil_append] at h0
  have H0 := Lib.hid h0
  clear h0
  by_cases ha : At.ok a
  · have cR := Lib.hid (fun W => right_any a W)
    rw [if_pos ha] at cR
    have cC := Lib.hid (fun W h => check_yes a W h ha)
    have cP := Lib.hid (fun W h => params_any a W h ha)
    have cQ := Lib.hid (fun W => refParams_any a W ha)
    have cS := Lib.hid (fun W => style_any a.f a.b a.g W)
    have cT := Lib.hid (fun W => refStyle_any a.f a.b a.g W ha.2.2)
    have hlen := Lib.hid (At.params_len ha)
    generalize At.params a = xs at cP cQ hlen
    generalize At.style a.g = st at cS cT
    obtain ⟨f, b, g⟩ := a
    clear ha
    simp only at H0 cS cT
    have es : (st == st) = true := by simp
    have keep : ∀ {W W' : World}, (W.cell? ⟨w.heap.size, 0, none⟩ = some (.int .i64 f) ∧ W.cell? ⟨w.heap.size, 1, none⟩ = some (.int .i64 b) ∧ W.cell? ⟨w.heap.size, 2, none⟩ = some (.int .i64 g) ∧ Aside (Ke w W [(w.heap.size, ⟨f, b, g⟩)])) → Below W.heap.size W W' → (W'.cell? ⟨w.heap.size, 0, none⟩ = some (.int .i64 f) ∧ W'.cell? ⟨w.heap.size, 1, none⟩ = some (.int .i64 b) ∧ W'.cell? ⟨w.heap.size, 2, none⟩ = some (.int .i64 g) ∧ Aside (Ke w W' [(w.heap.size, ⟨f, b, g⟩)])) := by
      intro W W' h hb
      have q := h.2.2.2.out.below hb
      have r := q.rec 0 rfl
      exact ⟨r.c0, r.c1, r.c2, q⟩
    have hcC : ∀ W : World, (W.cell? ⟨w.heap.size, 0, none⟩ = some (.int .i64 f) ∧ W.cell? ⟨w.heap.size, 1, none⟩ = some (.int .i64 b) ∧ W.cell? ⟨w.heap.size, 2, none⟩ = some (.int .i64 g) ∧ Aside (Ke w W [(w.heap.size, ⟨f, b, g⟩)])) → Calls Tryd.prog 15 #[.agg #[.int .i64 f, .int .i64 b, .int .i64 g]] W fun e w' => e = .returned (.int .i64 0) ∧ Below W.heap.size W w' := fun W h => cC.out W h.2.2.2.out.2.2
    have hcP : ∀ W : World, (W.cell? ⟨w.heap.size, 0, none⟩ = some (.int .i64 f) ∧ W.cell? ⟨w.heap.size, 1, none⟩ = some (.int .i64 b) ∧ W.cell? ⟨w.heap.size, 2, none⟩ = some (.int .i64 g) ∧ Aside (Ke w W [(w.heap.size, ⟨f, b, g⟩)])) → Calls Tryd.prog 17 #[.agg #[.int .i64 f, .int .i64 b, .int .i64 g]] W fun e w' => ∃ A n cap, e = .returned (.slice A n cap) ∧ Gives W w' A n cap xs := fun W h => cP.out W h.2.2.2.out.2.2
    have hcQ : ∀ W : World, Calls Tryd.prog 18 #[.agg #[.int .i64 f, .int .i64 b, .int .i64 g]] W fun e w' => ∃ A n cap, e = .returned (.slice A n cap) ∧ Gives W w' A n cap xs := cQ.out
    have hcS : ∀ W : World, Calls Tryd.prog 19 #[.agg #[.int .i64 f, .int .i64 b, .int .i64 g]] W fun e w' => e = .returned (.int .i64 st) ∧ Below W.heap.size W w' := cS.out
    have hcT : ∀ W : World, Calls Tryd.prog 20 #[.agg #[.int .i64 f, .int .i64 b, .int .i64 g]] W fun e w' => e = .returned (.int .i64 st) ∧ Below W.heap.size W w' := cT.out
    have hcW : ∀ W : World, (W.cell? ⟨w.heap.size, 0, none⟩ = some (.int .i64 f) ∧ W.cell? ⟨w.heap.size, 1, none⟩ = some (.int .i64 b) ∧ W.cell? ⟨w.heap.size, 2, none⟩ = some (.int .i64 g) ∧ Aside (Ke w W [(w.heap.size, ⟨f, b, g⟩)])) → Calls Tryd.prog 12 #[] W fun e w' => e = .returned (.bool true) ∧ Below W.heap.size W w' := fun W h => awake_any W h.2.2.2.out.2.2
    go_enter Tryd.func4, Tryd.ntmps4
    go_wp2_with fail
    refine (cR.out _).mono ?_
    rintro e w1 ⟨rfl, b1⟩
    have H1 := Lib.hid (H0.out.below b1)
    clear b1 H0 cR cC cP cQ cS cT
    go_wp2_with fail
    have k1 : Ke w w1.drew [(w.heap.size, ⟨f, b, g⟩)] := H1.out.drew
    have ra := k1.rec 0 rfl
    have hS1 : w1.drew.cell? ⟨w.heap.size, 0, none⟩ = some (.int .i64 f) ∧ w1.drew.cell? ⟨w.heap.size, 1, none⟩ = some (.int .i64 b) ∧ w1.drew.cell? ⟨w.heap.size, 2, none⟩ = some (.int .i64 g) ∧ Aside (Ke w w1.drew [(w.heap.size, ⟨f, b, g⟩)]) := ⟨ra.c0, ra.c1, ra.c2, k1⟩
    clear H1 k1 ra
    go_region_held3 (fun W => W.cell? ⟨w.heap.size, 0, none⟩ = some (.int .i64 f) ∧ W.cell? ⟨w.heap.size, 1, none⟩ = some (.int .i64 b) ∧ W.cell? ⟨w.heap.size, 2, none⟩ = some (.int .i64 g) ∧ Aside (Ke w W [(w.heap.size, ⟨f, b, g⟩)]))
      (assumption)
      (first
        | (go_at_call 15; refine (hcC _ (by assumption)).mono ?_; rintro e w' ⟨rfl, hb'⟩; have hs' := keep (by assumption) hb')
        | (go_at_call 17; refine (hcP _ (by assumption)).mono ?_; rintro e w' ⟨A1, n1, c1, rfl, g1⟩; have hs' := keep (by assumption) g1.2.2; have P1 := Lib.hid g1.1; have L1 := Lib.hid g1.length; clear g1)
        | (go_at_call 18; refine (hcQ _).mono ?_; rintro e w' ⟨A2, n2, c2, rfl, g2⟩; have hs' := keep (by assumption) g2.2.2; have P2 := Lib.hid (P1.out.below g2.2.2 (Nat.le_refl _)); have P3 := Lib.hid g2.1; have hn2 := g2.length; rw [← L1.out] at hn2; subst hn2; clear g2)
        | (go_at_call 16; refine (same_true A1 A2 _ c1 c2 _ _ xs _ (by have := L1.out; have := hlen.out; omega) P2.out P3.out).mono ?_; rintro e w' ⟨rfl, hb'⟩; have hs' := keep (by assumption) hb')
        | (go_at_call 19; refine (hcS _).mono ?_; rintro e w' ⟨rfl, hb'⟩; have hs' := keep (by assumption) hb')
        | (go_at_call 20; refine (hcT _).mono ?_; rintro e w' ⟨rfl, hb'⟩; have hs' := keep (by assumption) hb')
        | (go_at_call 21; refine (default_any _).mono ?_; rintro e w' ⟨rfl, hb'⟩; have hs' := keep (by assumption) hb')
        | (go_at_call 22; refine (refDefault_any _).mono ?_; rintro e w' ⟨rfl, hb'⟩; have hs' := keep (by assumption) hb')
        | (go_at_call 12; refine (hcW _ (by assumption)).mono ?_; rintro e w' ⟨rfl, hb'⟩; have hs' := keep (by assumption) hb'))
    go_wp2
    go_ret
    exact ⟨rfl, hs'.2.2.2.out.2.1⟩
  · have cR := Lib.hid (fun W => right_any a W)
    rw [if_neg ha] at cR
    have cC := Lib.hid (fun W h => check_no a W h ha)
    obtain ⟨f, b, g⟩ := a
    clear ha
    simp only at H0
    go_enter Tryd.func4, Tryd.ntmps4
    go_wp2_with fail
    refine (cR.out _).mono ?_
    rintro e w1 ⟨rfl, b1⟩
    have H1 := Lib.hid (H0.out.below b1)
    have r1 := H1.out.rec 0 rfl
    have z0 := r1.c0
    have z1 := r1.c1
    have z2 := r1.c2
    clear b1 H0 r1
    go_wp2_with fail
    refine (cC.out w1 H1.out.2.2).mono ?_
    rintro e w2 ⟨rfl, b2⟩
    have H2 := Lib.hid (H1.out.below b2)
    clear b2 H1 z0 z1 z2
    go_wp2_with fail
    refine (awake_any w2 H2.out.2.2).mono ?_
    rintro e w3 ⟨rfl, b3⟩
    go_wp2
    go_ret
    exact ⟨rfl, (H2.out.below b3).2.1⟩

end Go.Proofs.YtodcjdglnfgdpaaDoor
