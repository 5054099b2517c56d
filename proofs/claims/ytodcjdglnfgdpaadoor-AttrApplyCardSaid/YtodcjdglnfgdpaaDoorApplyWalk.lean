/-
  The statement on Apply and the document's own Apply returns true, for every rendition and every slice of numbers.
-/
import Derived.Test.YtodcjdglnfgdpaaDoorRefRun
namespace Go.Proofs.YtodcjdglnfgdpaaDoor
open Go.RowKit

set_option maxHeartbeats 4000000 in
set_option maxRecDepth 100000 in
theorem apply_walk (a : At.R) (A : Option Addr) (n c : Nat) (xs : List Int) (w : World) (hX : Nums w w.heap.size A n xs) (kX : A = none → n = 0 ∧ c = 0) (_ : n ≤ 9223372036854775807) (hr : ∀ z ∈ xs, -9223372036854775808 ≤ z ∧ z ≤ 9223372036854775807) (hT : Tb w) :
    Calls Tryd.prog 3 #[av a, .slice A n c] w fun e w' => e = .returned (.bool true) ∧ Below w.heap.size w w' := by
  have eq1 := Tryd.stoodInHeld23
  have eq2 := Tryd.eqGuardType23
  have h0 := (Ke.start hT).more a
  rw [List.nil_append] at h0
  have H0 := Lib.hid h0
  clear h0
  have cR := Lib.hid (fun W => right_any a W)
  by_cases ha : At.ok a
  · rw [if_pos ha] at cR
    by_cases hbig : 40 < n
    · have hbz : (40 : Int) < (n : Int) := by omega
      obtain ⟨f, b, g⟩ := a
      clear ha hX hr kX
      simp only at H0
      go_enter Tryd.func3, Tryd.ntmps3
      go_wp2_with fail
      refine (cR.out _).mono ?_
      rintro e w1 ⟨rfl, b1⟩
      have H1 := Lib.hid (H0.out.below b1)
      clear b1 H0
      go_wp2_with fail
      refine (awake_any w1 H1.out.2.2).mono ?_
      rintro e w2 ⟨rfl, b2⟩
      go_wp2
      go_ret
      exact ⟨rfl, (H1.out.below b2).2.1⟩
    · have hbz : ¬ (40 : Int) < (n : Int) := by omega
      have hn : n ≤ 1000 := by omega
      have cP := Lib.hid (fun (W : World) (rs : List (Nat × At.R)) (h : Ke w W rs) => apply_any A n c w.heap.size xs a W h.2.1.size (h.nums hX) kX hn (fun z hz => (hr z hz).2) h.2.2)
      have cQ := Lib.hid (fun (W : World) (rs : List (Nat × At.R)) (h : Ke w W rs) => refApply_any A n c w.heap.size xs a W h.2.1.size (h.nums hX) hn (fun z hz => (hr z hz).2) ha)
      have hok := At.apply_ok ha xs
      generalize At.apply a xs = a2 at cP cQ hok
      have cC := Lib.hid (fun W h => check_yes a2 W h hok)
      obtain ⟨f, b, g⟩ := a
      obtain ⟨f', b', g'⟩ := a2
      clear ha hX hr kX hok
      simp only at H0
      go_enter Tryd.func3, Tryd.ntmps3
      go_wp2_with fail
      refine (cR.out _).mono ?_
      rintro e w1 ⟨rfl, b1⟩
      have H1 := Lib.hid (H0.out.below b1)
      have r1 := H1.out.rec 0 rfl
      have z0 := r1.c0
      have z1 := r1.c1
      have z2 := r1.c2
      clear b1 H0 r1
      go_wp2_with fail
      refine (cP.out w1 _ H1.out).mono ?_
      rintro e w2 ⟨rfl, b2⟩
      have H3 := Lib.hid ((H1.out.below b2).more ⟨f', b', g'⟩)
      clear b2 H1 z0 z1 z2
      have keep : ∀ {W W' : World}, (W.cell? ⟨w.heap.size, 0, none⟩ = some (.int .i64 f) ∧ W.cell? ⟨w.heap.size, 1, none⟩ = some (.int .i64 b) ∧ W.cell? ⟨w.heap.size, 2, none⟩ = some (.int .i64 g) ∧ W.cell? ⟨w2.heap.size, 0, none⟩ = some (.int .i64 f') ∧ W.cell? ⟨w2.heap.size, 1, none⟩ = some (.int .i64 b') ∧ W.cell? ⟨w2.heap.size, 2, none⟩ = some (.int .i64 g') ∧ Aside (Ke w W ([(w.heap.size, ⟨f, b, g⟩)] ++ [(w2.heap.size, ⟨f', b', g'⟩)]))) → Below W.heap.size W W' → (W'.cell? ⟨w.heap.size, 0, none⟩ = some (.int .i64 f) ∧ W'.cell? ⟨w.heap.size, 1, none⟩ = some (.int .i64 b) ∧ W'.cell? ⟨w.heap.size, 2, none⟩ = some (.int .i64 g) ∧ W'.cell? ⟨w2.heap.size, 0, none⟩ = some (.int .i64 f') ∧ W'.cell? ⟨w2.heap.size, 1, none⟩ = some (.int .i64 b') ∧ W'.cell? ⟨w2.heap.size, 2, none⟩ = some (.int .i64 g') ∧ Aside (Ke w W' ([(w.heap.size, ⟨f, b, g⟩)] ++ [(w2.heap.size, ⟨f', b', g'⟩)]))) := by
        intro W W' h hb
        have q := h.2.2.2.2.2.2.out.below hb
        have r := q.rec 0 rfl
        have s := q.rec 1 rfl
        exact ⟨r.c0, r.c1, r.c2, s.c0, s.c1, s.c2, q⟩
      have hcQ : ∀ W : World, (W.cell? ⟨w.heap.size, 0, none⟩ = some (.int .i64 f) ∧ W.cell? ⟨w.heap.size, 1, none⟩ = some (.int .i64 b) ∧ W.cell? ⟨w.heap.size, 2, none⟩ = some (.int .i64 g) ∧ W.cell? ⟨w2.heap.size, 0, none⟩ = some (.int .i64 f') ∧ W.cell? ⟨w2.heap.size, 1, none⟩ = some (.int .i64 b') ∧ W.cell? ⟨w2.heap.size, 2, none⟩ = some (.int .i64 g') ∧ Aside (Ke w W ([(w.heap.size, ⟨f, b, g⟩)] ++ [(w2.heap.size, ⟨f', b', g'⟩)]))) → Calls Tryd.prog 14 #[.agg #[.int .i64 f, .int .i64 b, .int .i64 g], .slice A n c] W fun e w' => e = .returned (.agg #[.int .i64 f', .int .i64 b', .int .i64 g']) ∧ Below W.heap.size W w' := fun W h => cQ.out W _ h.2.2.2.2.2.2.out
      have hcC : ∀ W : World, (W.cell? ⟨w.heap.size, 0, none⟩ = some (.int .i64 f) ∧ W.cell? ⟨w.heap.size, 1, none⟩ = some (.int .i64 b) ∧ W.cell? ⟨w.heap.size, 2, none⟩ = some (.int .i64 g) ∧ W.cell? ⟨w2.heap.size, 0, none⟩ = some (.int .i64 f') ∧ W.cell? ⟨w2.heap.size, 1, none⟩ = some (.int .i64 b') ∧ W.cell? ⟨w2.heap.size, 2, none⟩ = some (.int .i64 g') ∧ Aside (Ke w W ([(w.heap.size, ⟨f, b, g⟩)] ++ [(w2.heap.size, ⟨f', b', g'⟩)]))) → Calls Tryd.prog 15 #[.agg #[.int .i64 f', .int .i64 b', .int .i64 g']] W fun e w' => e = .returned (.int .i64 0) ∧ Below W.heap.size W w' := fun W h => cC.out W h.2.2.2.2.2.2.out.2.2
      have hcW : ∀ W : World, (W.cell? ⟨w.heap.size, 0, none⟩ = some (.int .i64 f) ∧ W.cell? ⟨w.heap.size, 1, none⟩ = some (.int .i64 b) ∧ W.cell? ⟨w.heap.size, 2, none⟩ = some (.int .i64 g) ∧ W.cell? ⟨w2.heap.size, 0, none⟩ = some (.int .i64 f') ∧ W.cell? ⟨w2.heap.size, 1, none⟩ = some (.int .i64 b') ∧ W.cell? ⟨w2.heap.size, 2, none⟩ = some (.int .i64 g') ∧ Aside (Ke w W ([(w.heap.size, ⟨f, b, g⟩)] ++ [(w2.heap.size, ⟨f', b', g'⟩)]))) → Calls Tryd.prog 12 #[] W fun e w' => e = .returned (.bool true) ∧ Below W.heap.size W w' := fun W h => awake_any W h.2.2.2.2.2.2.out.2.2
      go_wp2_with fail
      generalize w2.alloc (.cells #[.int .i64 f', .int .i64 b', .int .i64 g'] 23) = W3 at H3 ⊢
      have k3 : Ke w W3.drew _ := H3.out.drew
      have ra := k3.rec 0 rfl
      have rb := k3.rec 1 rfl
      have hS3 : W3.drew.cell? ⟨w.heap.size, 0, none⟩ = some (.int .i64 f) ∧ W3.drew.cell? ⟨w.heap.size, 1, none⟩ = some (.int .i64 b) ∧ W3.drew.cell? ⟨w.heap.size, 2, none⟩ = some (.int .i64 g) ∧ W3.drew.cell? ⟨w2.heap.size, 0, none⟩ = some (.int .i64 f') ∧ W3.drew.cell? ⟨w2.heap.size, 1, none⟩ = some (.int .i64 b') ∧ W3.drew.cell? ⟨w2.heap.size, 2, none⟩ = some (.int .i64 g') ∧ Aside (Ke w W3.drew ([(w.heap.size, ⟨f, b, g⟩)] ++ [(w2.heap.size, ⟨f', b', g'⟩)])) := ⟨ra.c0, ra.c1, ra.c2, rb.c0, rb.c1, rb.c2, k3⟩
      clear H3 cR cP cQ cC ra rb k3
      go_region_held3 (fun W => W.cell? ⟨w.heap.size, 0, none⟩ = some (.int .i64 f) ∧ W.cell? ⟨w.heap.size, 1, none⟩ = some (.int .i64 b) ∧ W.cell? ⟨w.heap.size, 2, none⟩ = some (.int .i64 g) ∧ W.cell? ⟨w2.heap.size, 0, none⟩ = some (.int .i64 f') ∧ W.cell? ⟨w2.heap.size, 1, none⟩ = some (.int .i64 b') ∧ W.cell? ⟨w2.heap.size, 2, none⟩ = some (.int .i64 g') ∧ Aside (Ke w W ([(w.heap.size, ⟨f, b, g⟩)] ++ [(w2.heap.size, ⟨f', b', g'⟩)])))
        (assumption)
        (first | (go_at_call 14; refine (hcQ _ (by assumption)).mono ?_; rintro e w' ⟨rfl, hb'⟩; have hs' := keep (by assumption) hb') | (go_at_call 15; refine (hcC _ (by assumption)).mono ?_; rintro e w' ⟨rfl, hb'⟩; have hs' := keep (by assumption) hb') | (go_at_call 12; refine (hcW _ (by assumption)).mono ?_; rintro e w' ⟨rfl, hb'⟩; have hs' := keep (by assumption) hb'))
      go_wp2
      go_ret
      exact ⟨rfl, hs'.2.2.2.2.2.2.out.2.1⟩
  · rw [if_neg ha] at cR
    obtain ⟨f, b, g⟩ := a
    clear ha hX hr kX
    simp only at H0
    go_enter Tryd.func3, Tryd.ntmps3
    go_wp2_with fail
    refine (cR.out _).mono ?_
    rintro e w1 ⟨rfl, b1⟩
    have H1 := Lib.hid (H0.out.below b1)
    clear b1 H0
    go_wp2_with fail
    refine (awake_any w1 H1.out.2.2).mono ?_
    rintro e w2 ⟨rfl, b2⟩
    go_wp2
    go_ret
    exact ⟨rfl, (H1.out.below b2).2.1⟩

end Go.Proofs.YtodcjdglnfgdpaaDoor
