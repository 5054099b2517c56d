/-
  What cellsOf of cellrow returns.
-/
import Derived.Test.YtcljmmadimldlaaDoorCrCells
namespace Go.Proofs.YtcljmmadimldlaaDoor
open Go.RowKit Go.Shelf Cr

theorem Own.cells1 (w : World) (t : ByteArray) (x f b g : Int) : GivesC w (w.alloc (.cells #[.string t, .int .i64 x, .int .i64 f, .int .i64 b, .int .i64 g] 48)) (some ⟨w.heap.size, 0, none⟩) 1 1 [⟨t, x, f, b, g⟩] :=
  (Own.laid w [⟨t, x, f, b, g⟩] _ 1 rfl (by decide) rfl).mine.gives
theorem Own.cells2 (w : World) (t : ByteArray) (x f b g : Int) : GivesC w (w.alloc (.cells #[.string t, .int .i64 x, .int .i64 f, .int .i64 b, .int .i64 g, .string ⟨#[]⟩, .int .i64 0, .int .i64 f, .int .i64 b, .int .i64 g] 48)) (some ⟨w.heap.size, 0, none⟩) 2 2 [⟨t, x, f, b, g⟩, ⟨⟨#[]⟩, 0, f, b, g⟩] :=
  (Own.laid w [⟨t, x, f, b, g⟩, ⟨⟨#[]⟩, 0, f, b, g⟩] _ 2 rfl (by decide) rfl).mine.gives

/-- The first cell and the rendition lie in memory. -/
def Fs (w wx : World) (k : Nat) (t : ByteArray) (x f b g : Int) : Prop := wx.heap[k]? = some (.cells #[.string t, .int .i64 x, .int .i64 f, .int .i64 b, .int .i64 g] 48) ∧ wx.heap[w.heap.size]? = some (.cells #[.int .i64 f, .int .i64 b, .int .i64 g] 24) ∧ Below w.heap.size w wx
theorem set5 {w : World} {k : Nat} (h : w.heap[k]? = some (.cells #[.string ⟨#[]⟩, .int .i64 0, .int .i64 0, .int .i64 0, .int .i64 0] 48)) (v0 v1 v2 v3 v4 : Value) :
    (((((w.setCell ⟨k, 0, none⟩ v0).setCell ⟨k, 1, none⟩ v1).setCell ⟨k, 2, none⟩ v2).setCell ⟨k, 3, none⟩ v3).setCell ⟨k, 4, none⟩ v4).heap[k]? = some (.cells #[v0, v1, v2, v3, v4] 48) :=
  heap_setCell_same _ k 4 _ _ _ (heap_setCell_same _ k 3 _ _ _ (heap_setCell_same _ k 2 _ _ _ (heap_setCell_same _ k 1 _ _ _ (heap_setCell_same w k 0 _ _ _ h))))
theorem set5_other {w : World} {k j : Nat} (hj : j ≠ k) (v0 v1 v2 v3 v4 : Value) :
    (((((w.setCell ⟨k, 0, none⟩ v0).setCell ⟨k, 1, none⟩ v1).setCell ⟨k, 2, none⟩ v2).setCell ⟨k, 3, none⟩ v3).setCell ⟨k, 4, none⟩ v4).heap[j]? = w.heap[j]? :=
  (heap_setCell_other _ ⟨k, 4, none⟩ j _ hj).trans ((heap_setCell_other _ ⟨k, 3, none⟩ j _ hj).trans ((heap_setCell_other _ ⟨k, 2, none⟩ j _ hj).trans ((heap_setCell_other _ ⟨k, 1, none⟩ j _ hj).trans (heap_setCell_other w ⟨k, 0, none⟩ j _ hj))))
theorem set5_low {B : Nat} {a w : World} (h : Below B a w) {k : Nat} (hk : B ≤ k) (v0 v1 v2 v3 v4 : Value) : Below B a (((((w.setCell ⟨k, 0, none⟩ v0).setCell ⟨k, 1, none⟩ v1).setCell ⟨k, 2, none⟩ v2).setCell ⟨k, 3, none⟩ v3).setCell ⟨k, 4, none⟩ v4) :=
  ((((h.setCell (p := ⟨k, 0, none⟩) hk _).setCell (p := ⟨k, 1, none⟩) hk _).setCell (p := ⟨k, 2, none⟩) hk _).setCell (p := ⟨k, 3, none⟩) hk _).setCell (p := ⟨k, 4, none⟩) hk _

theorem Fs.of5 {w w1 : World} {f b g : Int} (hk : w1.heap[w.heap.size]? = some (.cells #[.int .i64 f, .int .i64 b, .int .i64 g] 24)) (hc : w1.heap[w.heap.size + 1]? = some (.cells #[.string ⟨#[]⟩, .int .i64 0, .int .i64 0, .int .i64 0, .int .i64 0] 48)) (hb : Below w.heap.size w w1) (t : ByteArray) (x f' b' g' : Int) (hf : f' = f := by rfl) (hb' : b' = b := by rfl) (hg : g' = g := by rfl) :
    Fs w (((((w1.setCell ⟨w.heap.size + 1, 0, none⟩ (.string t)).setCell ⟨w.heap.size + 1, 1, none⟩ (.int .i64 x)).setCell ⟨w.heap.size + 1, 2, none⟩ (.int .i64 f')).setCell ⟨w.heap.size + 1, 3, none⟩ (.int .i64 b')).setCell ⟨w.heap.size + 1, 4, none⟩ (.int .i64 g')) (w.heap.size + 1) t x f b g := by
  subst hf hb' hg
  exact ⟨set5 hc _ _ _ _ _, (set5_other (by omega) _ _ _ _ _).trans hk, set5_low hb (by omega) _ _ _ _ _⟩

set_option maxHeartbeats 1000000 in
set_option maxRecDepth 100000 in
theorem cellsOf_any (t : ByteArray) (f b g : Int) (w : World) (ht : t.size ≤ 300) (hT : Lib.Utf8Tabs 0 1 w) :
    Calls Tryd.prog 43 #[.string t, .agg #[.int .i64 f, .int .i64 b, .int .i64 g]] w fun e w' => ∃ A m c, e = .returned (.slice A m c) ∧ GivesC w w' A m c (cells t f b g) := by
  obtain ⟨x, hx⟩ : ∃ x, wd t = x := ⟨_, rfl⟩
  have hcells : cells t f b g = if x = 2 then [⟨t, 2, f, b, g⟩, ⟨⟨#[]⟩, 0, f, b, g⟩] else [⟨t, x, f, b, g⟩] := by unfold cells; rw [hx]
  rw [hcells]
  have cW : ∀ W, Lib.Utf8Tabs 0 1 W → Calls Tryd.prog 32 #[.string t] W fun e w' => e = .returned (.int .i64 x) ∧ Below W.heap.size W w' := fun W hW => by
    have := widthC_any t W ht hW
    rwa [show Cl.widthC t.data.toList = x from hx] at this
  have b1 := (Below.refl w.heap.size w).alloc (Nat.le_refl _) (.cells #[.int .i64 f, .int .i64 b, .int .i64 g] 24)
  have b2 := b1.alloc b1.size (.cells #[.string ⟨#[]⟩, .int .i64 0, .int .i64 0, .int .i64 0, .int .i64 0] 48)
  have cA := Lib.hid (cW (w.alloc (.cells #[.int .i64 f, .int .i64 b, .int .i64 g] 24)).drew (Utf8Tabs_below hT b1.drew))
  have cB := Lib.hid (cW ((w.alloc (.cells #[.int .i64 f, .int .i64 b, .int .i64 g] 24)).alloc (.cells #[.string ⟨#[]⟩, .int .i64 0, .int .i64 0, .int .i64 0, .int .i64 0] 48)).drew (Utf8Tabs_below hT b2.drew))
  have KA := Lib.hid (heap_alloc_new w (.cells #[.int .i64 f, .int .i64 b, .int .i64 g] 24))
  have KB : Hid (((w.alloc (.cells #[.int .i64 f, .int .i64 b, .int .i64 g] 24)).alloc (.cells #[.string ⟨#[]⟩, .int .i64 0, .int .i64 0, .int .i64 0, .int .i64 0] 48)).heap[w.heap.size]? = some (.cells #[.int .i64 f, .int .i64 b, .int .i64 g] 24)) := Lib.hid ((((Below.refl _ _).alloc (Nat.le_refl _) _).block w.heap.size (by simp)).trans KA.out)
  have KC : Hid (((w.alloc (.cells #[.int .i64 f, .int .i64 b, .int .i64 g] 24)).alloc (.cells #[.string ⟨#[]⟩, .int .i64 0, .int .i64 0, .int .i64 0, .int .i64 0] 48)).heap[w.heap.size + 1]? = some (.cells #[.string ⟨#[]⟩, .int .i64 0, .int .i64 0, .int .i64 0, .int .i64 0] 48)) := Lib.hid (by
    have h := heap_alloc_new (w.alloc (.cells #[.int .i64 f, .int .i64 b, .int .i64 g] 24)) (.cells #[.string ⟨#[]⟩, .int .i64 0, .int .i64 0, .int .i64 0, .int .i64 0] 48)
    simpa using h)
  have B1 := Lib.hid b1.drew
  have B2 := Lib.hid b2.drew
  clear cW hx hcells b1 b2
  go_enter Tryd.func43, Tryd.ntmps43
  go_upto_region 1 with fail
  go_cut [5] (fun v wx => ∃ k, v = .pointer (some ⟨k, 0, none⟩) ∧ Aside (Fs w wx k t x f b g))
  case first =>
    go_region_law (first | (go_simp; refine cA.out.mono ?_; rintro e w1 ⟨rfl, d1⟩; have hk := (d1.block w.heap.size (by simp)).trans KA.out; have q0 := cell_of_row w1 _ 0 _ _ _ hk; have q1 := cell_of_row w1 _ 1 _ _ _ hk; have q2 := cell_of_row w1 _ 2 _ _ _ hk; have hk2 := (((Below.refl w1.heap.size w1).alloc (Nat.le_refl _) (.cells #[.string ⟨#[]⟩, .int .i64 0, .int .i64 0, .int .i64 0, .int .i64 0] 48)).block w.heap.size (Nat.lt_of_lt_of_le (by simp) d1.size)).trans hk; have s0 := cell_of_row _ _ 0 _ _ _ hk2; have s1 := cell_of_row _ _ 1 _ _ _ hk2; have s2 := cell_of_row _ _ 2 _ _ _ hk2; have HK := Lib.hid hk; have HB := Lib.hid (B1.out.trans (d1.mono B1.out.size)); have FF : Hid (Fs w (w1.alloc (.cells #[.string t, .int .i64 x, .int .i64 f, .int .i64 b, .int .i64 g] 48)) w1.heap.size t x f b g) := Lib.hid ⟨heap_alloc_new w1 _, (((Below.refl w1.heap.size w1).alloc (Nat.le_refl _) _).block w.heap.size (Array.getElem?_eq_some_iff.1 HK.out).1).trans HK.out, HB.out.alloc HB.out.size _⟩; clear hk hk2 d1) | (go_simp; refine cB.out.mono ?_; rintro e w1 ⟨rfl, d1⟩; have hk := (d1.block w.heap.size (by simp <;> omega)).trans KB.out; have q0 := cell_of_row w1 _ 0 _ _ _ hk; have q1 := cell_of_row w1 _ 1 _ _ _ hk; have q2 := cell_of_row w1 _ 2 _ _ _ hk; have HK := Lib.hid hk; have hc := (d1.block (w.heap.size + 1) (by simp)).trans KC.out; have r0 := cell_of_row w1 _ 0 _ _ _ hc; have r1 := cell_of_row w1 _ 1 _ _ _ hc; have r2 := cell_of_row w1 _ 2 _ _ _ hc; have r3 := cell_of_row w1 _ 3 _ _ _ hc; have r4 := cell_of_row w1 _ 4 _ _ _ hc; have rz := fun i => frozen_of_row w1 _ i _ _ hc; have HC := Lib.hid hc; have HB := Lib.hid (B2.out.trans (d1.mono B2.out.size)); have FF := Lib.hid (Fs.of5 HK.out HC.out HB.out t x f b g); clear hk hc d1))
    all_goals
      go_wp2
      go_meet
      exact ⟨_, rfl, FF.out⟩
  case rest =>
    obtain ⟨k, rfl, hF⟩ := hcut
    have hk := hF.out.1
    have ha := hF.out.2.1
    have p0 := cell_of_row wc _ 0 _ _ _ hk
    have p1 := cell_of_row wc _ 1 _ _ _ hk
    have p2 := cell_of_row wc _ 2 _ _ _ hk
    have p3 := cell_of_row wc _ 3 _ _ _ hk
    have p4 := cell_of_row wc _ 4 _ _ _ hk
    have q0 := cell_of_row wc _ 0 _ _ _ ha
    have q1 := cell_of_row wc _ 1 _ _ _ ha
    have q2 := cell_of_row wc _ 2 _ _ _ ha
    by_cases hx2 : x = 2
    · subst hx2
      have hlt : k < wc.heap.size := (Array.getElem?_eq_some_iff.1 hk).1
      have cH := Lib.hid (half_any f b g wc.drew)
      have HF := Lib.hid hF.out.2.2
      have HK2 := Lib.hid hk
      clear hk ha hF
      go_wp2
      go_region_law (go_simp; refine cH.out.mono ?_; rintro e w2 ⟨rfl, d2⟩; have hk2 := (d2.block k hlt).trans HK2.out; have r0 := cell_of_row w2 _ 0 _ _ _ hk2; have r1 := cell_of_row w2 _ 1 _ _ _ hk2; have r2 := cell_of_row w2 _ 2 _ _ _ hk2; have r3 := cell_of_row w2 _ 3 _ _ _ hk2; have r4 := cell_of_row w2 _ 4 _ _ _ hk2; have HB2 := Lib.hid (HF.out.drew.trans (d2.mono HF.out.drew.size)); clear hk2 d2)
      all_goals
        go_wp2
        go_ret
        refine ⟨_, _, _, rfl, ?_⟩
        try rw [if_pos rfl]
        exact (Own.cells2 w2 t 2 f b g).rebase HB2.out
    · have hxb : (x == 2) = false := by simpa using hx2
      have HF := Lib.hid hF.out.2.2
      clear hk ha hF
      go_wp2
      go_ret
      refine ⟨_, _, _, rfl, ?_⟩
      try rw [if_neg hx2]
      exact (Own.cells1 wc t x f b g).rebase HF.out

end Go.Proofs.YtcljmmadimldlaaDoor
