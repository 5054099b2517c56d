/-
  The statement on colors returns true, for every rendition, all components and both choices.
-/
import Derived.Test.YtdeicbciiabdfaaDoorColState
import Derived.Deep.RegionHeld3
namespace Go.Proofs.YtdeicbciiabdfaaDoor
open Go.RowKit

/-- The variables as they are laid. -/
theorem laid_three (w : World) (a : At.R) (y : Six) (bk : Bool) (hT : Tb w) :
    (Rec (((w.alloc (.cells #[.int .i64 a.f, .int .i64 a.b, .int .i64 a.g] 23)).alloc (.cells y.cells 24)).alloc (.cells #[.bool bk] 4)) w.heap.size a ∧
    (((w.alloc (.cells #[.int .i64 a.f, .int .i64 a.b, .int .i64 a.g] 23)).alloc (.cells y.cells 24)).alloc (.cells #[.bool bk] 4)).heap[w.heap.size + 1]? = some (.cells y.cells 24) ∧
    (((w.alloc (.cells #[.int .i64 a.f, .int .i64 a.b, .int .i64 a.g] 23)).alloc (.cells y.cells 24)).alloc (.cells #[.bool bk] 4)).heap[w.heap.size + 1 + 1]? = some (.cells #[.bool bk] 4)) ∧
    Below w.heap.size w (((w.alloc (.cells #[.int .i64 a.f, .int .i64 a.b, .int .i64 a.g] 23)).alloc (.cells y.cells 24)).alloc (.cells #[.bool bk] 4)) ∧
    Tb (((w.alloc (.cells #[.int .i64 a.f, .int .i64 a.b, .int .i64 a.g] 23)).alloc (.cells y.cells 24)).alloc (.cells #[.bool bk] 4)) := by
  have r1 := Rec.laid w a
  obtain ⟨w1, hw1⟩ : ∃ w1, w.alloc (.cells #[.int .i64 a.f, .int .i64 a.b, .int .i64 a.g] 23) = w1 := ⟨_, rfl⟩
  have s1 : w1.heap.size = w.heap.size + 1 := by rw [← hw1]; simp
  have b1 : Below w.heap.size w w1 := by rw [← hw1]; exact (Below.refl _ w).alloc (Nat.le_refl _) _
  rw [hw1] at r1 ⊢
  have r2 := heap_alloc_new w1 (.cells y.cells 24)
  have b2 : Below w1.heap.size w1 (w1.alloc (.cells y.cells 24)) := (Below.refl _ w1).alloc (Nat.le_refl _) _
  obtain ⟨w2, hw2⟩ : ∃ w2, w1.alloc (.cells y.cells 24) = w2 := ⟨_, rfl⟩
  have s2 : w2.heap.size = w.heap.size + 1 + 1 := by rw [← hw2]; simp [s1]
  rw [hw2] at r2 b2 ⊢
  have r3 := heap_alloc_new w2 (.cells #[.bool bk] 4)
  have b3 : Below w2.heap.size w2 (w2.alloc (.cells #[.bool bk] 4)) := (Below.refl _ w2).alloc (Nat.le_refl _) _
  rw [s1] at r2
  rw [s2] at r3
  have b13 := b2.trans (b3.mono b2.size)
  have b03 := b1.trans (b13.mono b1.size)
  exact ⟨⟨(r1.below b2).below b3, (b3.block _ (by omega)).trans r2, r3⟩, b03, hT.below b03 (Nat.le_refl _)⟩

set_option maxHeartbeats 4000000 in
set_option maxRecDepth 100000 in
theorem colors_walk (a : At.R) (y : Six) (bk : Bool) (w : World) (hy : y.ok) (hT : Tb w) :
    Calls Tryd.prog 3 #[av a, .agg y.cells, .bool bk] w fun e w' => e = .returned (.bool true) ∧ Below w.heap.size w w' := by
  have h0 := laid_three w a y bk hT
  have hmf : ∀ (fn : Fn) (first cap : Array Value) (w : World), (Instr.makeFunc fn first cap).run Tryd.prog w = .ok (.func fn first cap) w := fun _ _ _ _ => rfl
  by_cases ha : At.ok a
  · have cA := Lib.hid (fun W h => check_yes a W h ha)
    obtain ⟨f, b, g⟩ := a
    obtain ⟨x0, x1, x2, x3, x4, x5⟩ := y
    have H0 := Lib.hid h0
    have HY := Lib.hid hy
    clear h0 hy ha
    simp only [Six.cells] at H0 ⊢
    go_enter Tryd.func3, Tryd.ntmps3
    go_wp2_with fail
    refine (cA.out _ H0.out.2.2).mono ?_
    rintro e w1 ⟨rfl, b1⟩
    have hco : (Rec w1 w.heap.size ⟨f, b, g⟩ ∧ w1.heap[w.heap.size + 1]? = some (.cells (Six.mk x0 x1 x2 x3 x4 x5).cells 24) ∧ w1.heap[w.heap.size + 1 + 1]? = some (.cells #[.bool bk] 4)) ∧ Below w.heap.size w w1 ∧ Tb w1 :=
      ⟨⟨H0.out.1.1.below b1, (b1.block _ (lt_of_heap H0.out.1.2.1)).trans H0.out.1.2.1, (b1.block _ (lt_of_heap H0.out.1.2.2)).trans H0.out.1.2.2⟩, H0.out.2.1.trans (b1.mono H0.out.2.1.size), H0.out.2.2.below b1 (Nat.le_refl _)⟩
    clear b1 H0
    generalize w.heap.size + 1 + 1 = pb at hco ⊢
    generalize w.heap.size + 1 = pd at hco ⊢
    have hcb := cell_of_row w1 pb 0 _ _ _ hco.1.2.2
    have hlb := lt_of_heap hco.1.2.2
    have hld := lt_of_heap hco.1.2.1
    have hla := hco.1.1.lt
    have HC := Lib.hid hco
    clear hco
    go_upto_if 15 with fail
    go_cut [7] (fun v wx => v = .pointer (some ⟨w1.heap.size, 0, none⟩) ∧ Aside (Co w wx pd pb w1.heap.size ⟨f, b, g⟩ ⟨x0, x1, x2, x3, x4, x5⟩ bk (if bk then 48 else 38)))
    case first =>
      cases bk
      · have HN := Lib.hid (Co.new HC.out 38)
        go_wp2
        go_meet
        exact ⟨rfl, HN.out⟩
      · have HN := Lib.hid (Co.new HC.out 48)
        go_wp2
        go_meet
        exact ⟨rfl, HN.out⟩
    case rest =>
      obtain ⟨rfl, hco⟩ := hcut
      have H1 := Lib.hid hco.out
      clear hco HC hcb hlb hld hla
      generalize w1.heap.size = pc at H1 ⊢
      generalize wc = W1 at H1 ⊢
      obtain ⟨y0, y1, y2, y3, y4, y5⟩ := HY.out
      simp only at y0 y1 y2 y3 y4 y5
      obtain ⟨k0, k1, k2, _, _, _⟩ := H1.out.at
      have c1 := Lib.hid (get_rgb H1.out x0 x1 x2 y0 y1 y2)
      go_wp2_with fail
      refine c1.out.mono ?_
      rintro e W2 ⟨rfl, b2⟩
      have H2 := Lib.hid (H1.out.below b2)
      clear c1 b2 k0 k1 k2 H1
      go_upto_region 8 with fail
      go_cut [10] (fun v wx => ∃ Y, v = .int .i64 Y ∧ At.rgb x0 x1 x2 ≤ Y ∧ Y ≤ 231 ∧ Aside (Co w wx pd pb pc ⟨f, b, g⟩ ⟨x0, x1, x2, x3, x4, x5⟩ bk (if bk then 48 else 38)))
      case first =>
        obtain ⟨k0, k1, k2, k3, k4, k5⟩ := H2.out.at
        simp only at k0 k1 k2 k3 k4 k5
        go_wp2_with fail
        all_goals
          refine (get_rgb H2.out _ _ _ (by assumption) (by assumption) (by assumption)).mono ?_
          rintro e W3 ⟨rfl, b3⟩
          have H3 := Lib.hid (H2.out.below b3)
          clear b3 k0 k1 k2 k3 k4 k5
          go_wp2
          go_meet
          exact ⟨_, rfl, At.rgb_mono (by omega) (by omega) (by omega), (At.rgb_range (by assumption) (by assumption) (by assumption)).2, H3.out⟩
      case rest =>
        obtain ⟨Y, rfl, hY1, hY2, hco⟩ := hcut
        have H3 := Lib.hid hco.out
        have hX1 := (At.rgb_range y0 y1 y2).1
        clear hco H2
        generalize wc = W3 at H3 ⊢
        generalize At.rgb x0 x1 x2 = X at hX1 hY1 ⊢
        go_upto_region 9 with fail
        have sB : ∀ {W W' : World}, (W.cell? ⟨pd, 0, none⟩ = some (.int .u8 x0) ∧ Aside (Co w W pd pb pc ⟨f, b, g⟩ ⟨x0, x1, x2, x3, x4, x5⟩ bk (if bk then 48 else 38))) → Below W.heap.size W W' → (W'.cell? ⟨pd, 0, none⟩ = some (.int .u8 x0) ∧ Aside (Co w W' pd pb pc ⟨f, b, g⟩ ⟨x0, x1, x2, x3, x4, x5⟩ bk (if bk then 48 else 38))) := fun {W W'} h hb => by
          have q := h.2.out.below hb
          exact ⟨q.at.1, q⟩
        have sA : ∀ {W : World} (o : Obj), (W.cell? ⟨pd, 0, none⟩ = some (.int .u8 x0) ∧ Aside (Co w W pd pb pc ⟨f, b, g⟩ ⟨x0, x1, x2, x3, x4, x5⟩ bk (if bk then 48 else 38))) → ((W.alloc o).cell? ⟨pd, 0, none⟩ = some (.int .u8 x0) ∧ Aside (Co w (W.alloc o) pd pb pc ⟨f, b, g⟩ ⟨x0, x1, x2, x3, x4, x5⟩ bk (if bk then 48 else 38))) := fun {W} o h => sB h ((Below.refl _ _).alloc (Nat.le_refl _) o)
        have sD : ∀ {W : World} (o : Obj), (W.drew.cell? ⟨pd, 0, none⟩ = some (.int .u8 x0) ∧ Aside (Co w W.drew pd pb pc ⟨f, b, g⟩ ⟨x0, x1, x2, x3, x4, x5⟩ bk (if bk then 48 else 38))) → ((W.alloc o).drew.cell? ⟨pd, 0, none⟩ = some (.int .u8 x0) ∧ Aside (Co w (W.alloc o).drew pd pb pc ⟨f, b, g⟩ ⟨x0, x1, x2, x3, x4, x5⟩ bk (if bk then 48 else 38))) := fun {W} o h => sA (W := W.drew) o h
        have g0 : ∀ W : World, (W.cell? ⟨pd, 0, none⟩ = some (.int .u8 x0) ∧ Aside (Co w W pd pb pc ⟨f, b, g⟩ ⟨x0, x1, x2, x3, x4, x5⟩ bk (if bk then 48 else 38))) → Calls Tryd.prog 6 #[.slice (some ⟨W.heap.size, 0, none⟩) 4 4, .pointer (some ⟨w.heap.size, 0, none⟩), .pointer (some ⟨pc, 0, none⟩), .pointer (some ⟨pb, 0, none⟩)] (W.alloc (.cells #[.int .i64 2, .int .i64 0, .int .i64 0, .int .i64 0] 3)) fun e w' => e = .returned (.int .i64 16) ∧ Below W.heap.size W w' := fun W h => by
          have q := get_rgb h.2.out 0 0 0 (by decide) (by decide) (by decide)
          rwa [At.rgb_black] at q
        have g1 : ∀ W : World, (W.cell? ⟨pd, 0, none⟩ = some (.int .u8 x0) ∧ Aside (Co w W pd pb pc ⟨f, b, g⟩ ⟨x0, x1, x2, x3, x4, x5⟩ bk (if bk then 48 else 38))) → Calls Tryd.prog 6 #[.slice (some ⟨W.heap.size, 0, none⟩) 4 4, .pointer (some ⟨w.heap.size, 0, none⟩), .pointer (some ⟨pc, 0, none⟩), .pointer (some ⟨pb, 0, none⟩)] (W.alloc (.cells #[.int .i64 2, .int .i64 255, .int .i64 255, .int .i64 255] 3)) fun e w' => e = .returned (.int .i64 231) ∧ Below W.heap.size W w' := fun W h => by
          have q := get_rgb h.2.out 255 255 255 (by decide) (by decide) (by decide)
          rwa [At.rgb_white] at q
        have g2 : ∀ W : World, (W.cell? ⟨pd, 0, none⟩ = some (.int .u8 x0) ∧ Aside (Co w W pd pb pc ⟨f, b, g⟩ ⟨x0, x1, x2, x3, x4, x5⟩ bk (if bk then 48 else 38))) → Calls Tryd.prog 6 #[.slice (some ⟨W.heap.size, 0, none⟩) 2 2, .pointer (some ⟨w.heap.size, 0, none⟩), .pointer (some ⟨pc, 0, none⟩), .pointer (some ⟨pb, 0, none⟩)] (W.alloc (.cells #[.int .i64 5, .int .i64 x0] 3)) fun e w' => e = .returned (.int .i64 x0) ∧ Below W.heap.size W w' := fun W h => get_num h.2.out x0 y0
        have gW : ∀ W : World, (W.cell? ⟨pd, 0, none⟩ = some (.int .u8 x0) ∧ Aside (Co w W pd pb pc ⟨f, b, g⟩ ⟨x0, x1, x2, x3, x4, x5⟩ bk (if bk then 48 else 38))) → Calls Tryd.prog 5 #[] W fun e w' => e = .returned (.bool true) ∧ Below W.heap.size W w' := fun W h => awake_any W h.2.out.2.2
        have gD : Calls Tryd.prog 6 #[.slice (some ⟨W3.heap.size, 0, none⟩) 4 4, .pointer (some ⟨w.heap.size, 0, none⟩), .pointer (some ⟨pc, 0, none⟩), .pointer (some ⟨pb, 0, none⟩)] (W3.alloc (.cells #[.int .i64 2, .int .i64 0, .int .i64 0, .int .i64 0] 3)).drew fun e w' => e = .returned (.int .i64 16) ∧ Below W3.drew.heap.size W3.drew w' := g0 W3.drew ⟨H3.out.drew.at.1, H3.out.drew⟩
        have hS3 : W3.drew.cell? ⟨pd, 0, none⟩ = some (.int .u8 x0) ∧ Aside (Co w W3.drew pd pb pc ⟨f, b, g⟩ ⟨x0, x1, x2, x3, x4, x5⟩ bk (if bk then 48 else 38)) := ⟨H3.out.drew.at.1, H3.out.drew⟩
        have hB3 := Lib.hid H3.out.2.1
        have hxx : (x0 == x0) = true := by simp
        have hw0 : IntKind.i64.wrap x0 = x0 := by rw [IntKind.wrap_i64]; omega
        obtain ⟨y00, y01⟩ := y0
        clear H3 hmf cA HY
        go_region_held3 (fun W => W.cell? ⟨pd, 0, none⟩ = some (.int .u8 x0) ∧ Aside (Co w W pd pb pc ⟨f, b, g⟩ ⟨x0, x1, x2, x3, x4, x5⟩ bk (if bk then 48 else 38)))
          (first | assumption | (refine sA _ ?_; assumption) | (refine sD _ ?_; assumption))
          (first | (go_at_call 6; (with_reducible refine gD.mono ?_); rintro e w' ⟨rfl, hb'⟩; have hs' := sB (by assumption) hb') | (go_at_call 6; (with_reducible refine (g0 _ (by assumption)).mono ?_); rintro e w' ⟨rfl, hb'⟩; have hs' := sB (by assumption) hb') | (go_at_call 6; (with_reducible refine (g1 _ (by assumption)).mono ?_); rintro e w' ⟨rfl, hb'⟩; have hs' := sB (by assumption) hb') | (go_at_call 6; (with_reducible refine (g2 _ (by assumption)).mono ?_); rintro e w' ⟨rfl, hb'⟩; have hs' := sB (by assumption) hb') | (go_at_call 5; (with_reducible refine (gW _ (by assumption)).mono ?_); rintro e w' ⟨rfl, hb'⟩; have hs' := sB (by assumption) hb'))
        all_goals
          go_wp2
          go_ret
          exact ⟨rfl, hs'.2.out.2.1⟩
  · have cA := Lib.hid (fun W h => check_no a W h ha)
    obtain ⟨f, b, g⟩ := a
    obtain ⟨x0, x1, x2, x3, x4, x5⟩ := y
    have H0 := Lib.hid h0
    clear h0 hy ha
    simp only [Six.cells] at H0 ⊢
    go_enter Tryd.func3, Tryd.ntmps3
    go_wp2_with fail
    refine (cA.out _ H0.out.2.2).mono ?_
    rintro e w1 ⟨rfl, b1⟩
    have B1 := Lib.hid (H0.out.2.1.trans (b1.mono H0.out.2.1.size))
    have T1 := Lib.hid (H0.out.2.2.below b1 (Nat.le_refl _))
    clear b1 H0
    go_wp2_with fail
    refine (awake_any w1 T1.out).mono ?_
    rintro e w2 ⟨rfl, b2⟩
    go_wp2
    go_ret
    exact ⟨rfl, B1.out.trans (b2.mono B1.out.size)⟩

end Go.Proofs.YtdeicbciiabdfaaDoor
