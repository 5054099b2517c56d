/-
  The statement on applying numbers twice returns true, for every rendition and every slice of numbers.
-/
import Derived.Test.YtodcjdglnfgdpaaDoorKe
namespace Go.Proofs.YtodcjdglnfgdpaaDoor
open Go.RowKit

set_option maxHeartbeats 4000000 in
set_option maxRecDepth 100000 in
theorem idem_walk (a : At.R) (A : Option Addr) (n c : Nat) (xs : List Int) (w : World) (hX : Nums w w.heap.size A n xs) (kX : A = none → n = 0 ∧ c = 0) (_ : n ≤ 9223372036854775807) (hr : ∀ z ∈ xs, -9223372036854775808 ≤ z ∧ z ≤ 9223372036854775807) (hT : Tb w) :
    Calls Tryd.prog 6 #[av a, .slice A n c] w fun e w' => e = .returned (.bool true) ∧ Below w.heap.size w w' := by
  have eq1 := Tryd.stoodInHeld23
  have eq2 := Tryd.eqGuardType23
  have h0 := (Ke.start hT).more a
  rw [List.nil_append] at h0
  by_cases ha : At.ok a
  · have cA := Lib.hid (fun W h => check_yes a W h ha)
    by_cases hbig : 40 < n
    · have hbz : (40 : Int) < (n : Int) := by omega
      obtain ⟨f, b, g⟩ := a
      have H0 := Lib.hid h0
      clear h0 ha hX hr kX
      simp only at H0
      go_enter Tryd.func6, Tryd.ntmps6
      go_wp2_with fail
      refine (cA.out _ H0.out.2.2).mono ?_
      rintro e w1 ⟨rfl, b1⟩
      have H1 := Lib.hid (H0.out.below b1)
      clear b1 H0
      go_wp2_with fail
      refine (awake_any w1 H1.out.2.2).mono ?_
      rintro e w2 ⟨rfl, b2⟩
      go_wp2
      go_ret
      exact ⟨rfl, (H1.out.below b2).2.1⟩
    · have hbz : ¬ (40 : Int) < (n : Int) := by omega
      have hn : n ≤ 1000 := by omega
      have cP := Lib.hid (fun (a : At.R) (W : World) (rs : List (Nat × At.R)) (h : Ke w W rs) => apply_any A n c w.heap.size xs a W h.2.1.size (h.nums hX) kX hn (fun z hz => (hr z hz).2) h.2.2)
      have HI := Lib.hid (At.apply_twice ha xs)
      obtain ⟨a2, ha2⟩ : ∃ a2, At.apply a xs = a2 := ⟨_, rfl⟩
      rw [ha2] at HI
      have H2 := Lib.hid ha2
      obtain ⟨f, b, g⟩ := a
      obtain ⟨f', b', g'⟩ := a2
      have H0 := Lib.hid h0
      clear h0 ha ha2 hX hr kX
      simp only at H0
      go_enter Tryd.func6, Tryd.ntmps6
      go_wp2_with fail
      refine (cA.out _ H0.out.2.2).mono ?_
      rintro e w1 ⟨rfl, b1⟩
      have H1 := Lib.hid (H0.out.below b1)
      have r1 := H1.out.rec 0 rfl
      have z0 := r1.c0
      have z1 := r1.c1
      have z2 := r1.c2
      clear b1 H0 r1
      go_wp2_with fail
      have c2 := cP.out ⟨f, b, g⟩ w1 _ H1.out
      rw [H2.out] at c2
      refine c2.mono ?_
      rintro e w2 ⟨rfl, b2⟩
      have H3 := Lib.hid ((H1.out.below b2).more ⟨f', b', g'⟩)
      clear b2 H1 z0 z1 z2 c2
      have keep : ∀ {W W' : World}, (W.cell? ⟨w2.heap.size, 0, none⟩ = some (.int .i64 f') ∧ W.cell? ⟨w2.heap.size, 1, none⟩ = some (.int .i64 b') ∧ W.cell? ⟨w2.heap.size, 2, none⟩ = some (.int .i64 g') ∧ Aside (Ke w W ([(w.heap.size, ⟨f, b, g⟩)] ++ [(w2.heap.size, ⟨f', b', g'⟩)]))) → Below W.heap.size W W' →
          (W'.cell? ⟨w2.heap.size, 0, none⟩ = some (.int .i64 f') ∧ W'.cell? ⟨w2.heap.size, 1, none⟩ = some (.int .i64 b') ∧ W'.cell? ⟨w2.heap.size, 2, none⟩ = some (.int .i64 g') ∧ Aside (Ke w W' ([(w.heap.size, ⟨f, b, g⟩)] ++ [(w2.heap.size, ⟨f', b', g'⟩)]))) := by
        intro W W' h hb
        have q := h.2.2.2.out.below hb
        have r := q.rec 1 rfl
        exact ⟨r.c0, r.c1, r.c2, q⟩
      have hcA : ∀ W : World, (W.cell? ⟨w2.heap.size, 0, none⟩ = some (.int .i64 f') ∧ W.cell? ⟨w2.heap.size, 1, none⟩ = some (.int .i64 b') ∧ W.cell? ⟨w2.heap.size, 2, none⟩ = some (.int .i64 g') ∧ Aside (Ke w W ([(w.heap.size, ⟨f, b, g⟩)] ++ [(w2.heap.size, ⟨f', b', g'⟩)]))) →
          Calls Tryd.prog 13 #[.agg #[.int .i64 f', .int .i64 b', .int .i64 g'], .slice A n c] W fun e w' => e = .returned (.agg #[.int .i64 f', .int .i64 b', .int .i64 g']) ∧ Below W.heap.size W w' := by
        intro W h
        have q := cP.out ⟨f', b', g'⟩ W _ h.2.2.2.out
        rw [HI.out] at q
        exact q
      have hcW : ∀ W : World, (W.cell? ⟨w2.heap.size, 0, none⟩ = some (.int .i64 f') ∧ W.cell? ⟨w2.heap.size, 1, none⟩ = some (.int .i64 b') ∧ W.cell? ⟨w2.heap.size, 2, none⟩ = some (.int .i64 g') ∧ Aside (Ke w W ([(w.heap.size, ⟨f, b, g⟩)] ++ [(w2.heap.size, ⟨f', b', g'⟩)]))) →
          Calls Tryd.prog 12 #[] W fun e w' => e = .returned (.bool true) ∧ Below W.heap.size W w' := fun W h => awake_any W h.2.2.2.out.2.2
      go_wp2_with fail
      generalize w2.alloc (.cells #[.int .i64 f', .int .i64 b', .int .i64 g'] 23) = W3 at H3 ⊢
      have hS3 : W3.drew.cell? ⟨w2.heap.size, 0, none⟩ = some (.int .i64 f') ∧ W3.drew.cell? ⟨w2.heap.size, 1, none⟩ = some (.int .i64 b') ∧ W3.drew.cell? ⟨w2.heap.size, 2, none⟩ = some (.int .i64 g') ∧ Aside (Ke w W3.drew ([(w.heap.size, ⟨f, b, g⟩)] ++ [(w2.heap.size, ⟨f', b', g'⟩)])) :=
        ⟨(H3.out.rec 1 rfl).c0, (H3.out.rec 1 rfl).c1, (H3.out.rec 1 rfl).c2, H3.out.drew⟩
      clear H3 cA cP HI H2
      go_region_held3 (fun W => W.cell? ⟨w2.heap.size, 0, none⟩ = some (.int .i64 f') ∧ W.cell? ⟨w2.heap.size, 1, none⟩ = some (.int .i64 b') ∧ W.cell? ⟨w2.heap.size, 2, none⟩ = some (.int .i64 g') ∧ Aside (Ke w W ([(w.heap.size, ⟨f, b, g⟩)] ++ [(w2.heap.size, ⟨f', b', g'⟩)])))
        (assumption)
        (first | (go_at_call 13; refine (hcA _ (by assumption)).mono ?_; rintro e w' ⟨rfl, hb'⟩; have hs' := keep (by assumption) hb') | (go_at_call 12; refine (hcW _ (by assumption)).mono ?_; rintro e w' ⟨rfl, hb'⟩; have hs' := keep (by assumption) hb'))
      go_wp2
      go_ret
      exact ⟨rfl, hs'.2.2.2.out.2.1⟩
  · have cA := Lib.hid (fun W h => check_no a W h ha)
    obtain ⟨f, b, g⟩ := a
    have H0 := Lib.hid h0
    clear h0 ha hX hr kX
    simp only at H0
    go_enter Tryd.func6, Tryd.ntmps6
    go_wp2_with fail
    refine (cA.out _ H0.out.2.2).mono ?_
    rintro e w1 ⟨rfl, b1⟩
    have H1 := Lib.hid (H0.out.below b1)
    clear b1 H0
    go_wp2_with fail
    refine (awake_any w1 H1.out.2.2).mono ?_
    rintro e w2 ⟨rfl, b2⟩
    go_wp2
    go_ret
    exact ⟨rfl, (H1.out.below b2).2.1⟩

end Go.Proofs.YtodcjdglnfgdpaaDoor
