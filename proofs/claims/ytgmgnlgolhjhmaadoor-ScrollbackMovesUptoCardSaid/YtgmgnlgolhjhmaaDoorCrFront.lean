/-
  What checkFront of cellrow returns.
-/
import Derived.Test.YtgmgnlgolhjhmaaDoorCrKit
namespace Go.Proofs.YtgmgnlgolhjhmaaDoor
open Go.RowKit Go.Shelf Cr

def ck (t : ByteArray) (x f b g : Int) : Array Value := #[.string t, .int .i64 x, .int .i64 f, .int .i64 b, .int .i64 g]
theorem first_at {w : World} {b off m : Nat} {c : C} {r : List C} (hr : Rd w (some ⟨b, off, none⟩) m (c :: r)) : w.cell? ⟨b, off, none⟩ = some (.string c.t) ∧ w.cell? ⟨b, off + 1, none⟩ = some (.int .i64 c.w) ∧ w.cell? ⟨b, off + 2, none⟩ = some (.int .i64 c.f) ∧ w.cell? ⟨b, off + 3, none⟩ = some (.int .i64 c.b) ∧ w.cell? ⟨b, off + 4, none⟩ = some (.int .i64 c.g) := by
  obtain ⟨b', off', e, _, h⟩ := hr.at 0 c rfl
  injection e with e
  injection e with e1 e2
  subst e1 e2
  simpa using h
theorem second_at {w : World} {b off m : Nat} {c d : C} {r : List C} (hr : Rd w (some ⟨b, off, none⟩) m (c :: d :: r)) : w.cell? ⟨b, off + 5, none⟩ = some (.string d.t) ∧ w.cell? ⟨b, off + 5 + 1, none⟩ = some (.int .i64 d.w) ∧ w.cell? ⟨b, off + 5 + 2, none⟩ = some (.int .i64 d.f) ∧ w.cell? ⟨b, off + 5 + 3, none⟩ = some (.int .i64 d.b) ∧ w.cell? ⟨b, off + 5 + 4, none⟩ = some (.int .i64 d.g) := by
  obtain ⟨b', off', e, _, h⟩ := hr.at 1 d rfl
  injection e with e
  injection e with e1 e2
  subst e1 e2
  simpa using h

set_option maxHeartbeats 8000000 in
set_option maxRecDepth 100000 in
theorem front_any (b off m cp : Nat) (c : C) (r : List C) (hm : m ≤ 1000) (w : World) (hr : Rd w (some ⟨b, off, none⟩) m (c :: r)) (ht : c.t.size ≤ 300) (hT : Lib.Utf8Tabs 0 1 w) :
    Calls Tryd.prog 49 #[.slice (some ⟨b, off, none⟩) m cp] w fun e w' => e = .returned (.int .i64 (front c r : Nat)) ∧ Below w.heap.size w w' := by
  obtain ⟨t, x, f, bb, g⟩ := c
  have hml : (r.length + 1 : Nat) = m := hr.1
  have hm0 : (0 : Int) < (m : Int) := by omega
  obtain ⟨p0, p1, p2, p3, p4⟩ := first_at hr
  simp only at p0 p1 p2 p3 p4 ht
  obtain ⟨W, hW⟩ : ∃ W, w.alloc (.cells #[.string t, .int .i64 x, .int .i64 f, .int .i64 bb, .int .i64 g] 46) = W := ⟨_, rfl⟩
  have bW : Below w.heap.size w W := by rw [← hW]; exact (Below.refl _ _).alloc (Nat.le_refl _) _
  have hk : W.heap[w.heap.size]? = some (.cells #[.string t, .int .i64 x, .int .i64 f, .int .i64 bb, .int .i64 g] 46) := by rw [← hW]; exact heap_alloc_new w _
  have q0 := cell_of_row W _ 0 _ _ _ hk
  have q1 := cell_of_row W _ 1 _ _ _ hk
  have HT := Lib.hid (fun W' (h : Below w.heap.size w W') => Utf8Tabs_below hT h)
  have HK := Lib.hid hk
  have HW := Lib.hid bW
  have HR := Lib.hid hr
  have hfr : front ⟨t, x, f, bb, g⟩ r = if x ≠ 1 ∧ x ≠ 2 then 12 else if chk t ≠ 0 then 3 else if wd t ≠ x then 12 else if x = 2 ∧ r.head? ≠ some ⟨⟨#[]⟩, 0, f, bb, g⟩ then 12 else 0 := rfl
  rw [hfr]
  clear hfr hr hT hk bW
  by_cases hx : x ≠ 1 ∧ x ≠ 2
  · rw [if_pos hx]
    have x1 : (x != 1) = true := by simpa using hx.1
    have x2 : (x != 2) = true := by simpa using hx.2
    go_enter Tryd.func49, Tryd.ntmps49
    go_wp2
    go_ret
    exact ⟨rfl, HW.out⟩
  · rw [if_neg hx]
    have hx12 : x = 1 ∨ x = 2 := by omega
    have cC := Lib.hid (check_any t W ht (HT.out W HW.out))
    obtain ⟨e0, he0⟩ : ∃ e0 : Nat, chk t = e0 := ⟨_, rfl⟩
    rw [show Cl.chk t.data.toList = e0 from he0] at cC
    rw [he0]
    by_cases hc : e0 ≠ 0
    · rw [if_pos hc]
      have c1 : (((e0 : Nat) : Int) != 0) = true := nat_ne hc
      rcases hx12 with rfl | rfl
      · go_enter Tryd.func49, Tryd.ntmps49
        go_wp2_with fail
        refine cC.out.mono ?_
        rintro e w1 ⟨rfl, b1⟩
        go_wp2
        go_ret
        exact ⟨rfl, HW.out.trans (b1.mono HW.out.size)⟩
      · go_enter Tryd.func49, Tryd.ntmps49
        go_wp2_with fail
        refine cC.out.mono ?_
        rintro e w1 ⟨rfl, b1⟩
        go_wp2
        go_ret
        exact ⟨rfl, HW.out.trans (b1.mono HW.out.size)⟩
    · rw [if_neg hc]
      have hc0 : e0 = 0 := by omega
      subst hc0
      obtain ⟨y, hy⟩ : ∃ y, wd t = y := ⟨_, rfl⟩
      rw [hy]
      have cW := Lib.hid (fun W' hW' => widthC_any t W' ht hW')
      rw [show Cl.widthC t.data.toList = y from hy] at cW
      have hx1 : (x != 1 && x != 2) = false := by rcases hx12 with rfl | rfl <;> rfl
      have HX12 := Lib.hid hx12
      obtain ⟨R, hRR⟩ : ∃ R : Nat, (if y ≠ x then 12 else if x = 2 ∧ r.head? ≠ some ⟨⟨#[]⟩, 0, f, bb, g⟩ then 12 else 0) = R := ⟨_, rfl⟩
      rw [hRR]
      have HRR := Lib.hid hRR
      clear hRR
      rcases hx12 with rfl | rfl
      · go_enter Tryd.func49, Tryd.ntmps49
        go_wp2_with fail
        refine cC.out.mono ?_
        rintro e w1 ⟨rfl, b1⟩
        have B1 := Lib.hid (HW.out.trans (b1.mono HW.out.size))
        have hk1 := (b1.block w.heap.size (Array.getElem?_eq_some_iff.1 HK.out).1).trans HK.out
        have r0 := cell_of_row w1 _ 0 _ _ _ hk1
        have r1 := cell_of_row w1 _ 1 _ _ _ hk1
        have cW1 := Lib.hid (cW.out w1.drew (HT.out w1.drew B1.out.drew))
        have HK1 := Lib.hid hk1
        have hlt1 : w.heap.size < w1.heap.size := (Array.getElem?_eq_some_iff.1 hk1).1
        clear hk1 b1 q0 q1
        go_upto_region 6 with fail
        go_cut [21] (fun v wx => v = .bool (y != 1) ∧ Aside (wx.heap[w.heap.size]? = some (.cells #[.string t, .int .i64 1, .int .i64 f, .int .i64 bb, .int .i64 g] 46) ∧ Below w.heap.size w wx))
        case first =>
          go_region_law (go_simp; refine cW1.out.mono ?_; rintro e w2 ⟨rfl, d2⟩; have hk2 := (d2.block w.heap.size hlt1).trans HK1.out; have s0 := cell_of_row w2 _ 0 _ _ _ hk2; have s1 := cell_of_row w2 _ 1 _ _ _ hk2; have HK2 := Lib.hid hk2; have B2 := Lib.hid (B1.out.drew.trans (d2.mono B1.out.drew.size)); clear hk2 d2)
          all_goals
            go_wp2
            go_meet
            exact ⟨rfl, HK2.out, B2.out⟩
        case rest =>
          obtain ⟨rfl, hA⟩ := hcut
          have s0 := cell_of_row wc _ 1 _ _ _ hA.out.1
          by_cases hy1 : y = 1
          · subst hy1
            clear r0 r1
            go_wp2
            go_region
            go_wp2
            go_ret
            exact ⟨ret_int (by rw [← HRR.out]; simp), hA.out.2.drew⟩
          · have y1 : (y != 1) = true := by simpa using hy1
            clear r0 r1
            go_wp2
            go_ret
            exact ⟨ret_int (by rw [← HRR.out, if_pos hy1]; rfl), hA.out.2⟩
      · go_enter Tryd.func49, Tryd.ntmps49
        go_wp2_with fail
        refine cC.out.mono ?_
        rintro e w1 ⟨rfl, b1⟩
        have B1 := Lib.hid (HW.out.trans (b1.mono HW.out.size))
        have hk1 := (b1.block w.heap.size (Array.getElem?_eq_some_iff.1 HK.out).1).trans HK.out
        have r0 := cell_of_row w1 _ 0 _ _ _ hk1
        have r1 := cell_of_row w1 _ 1 _ _ _ hk1
        have cW1 := Lib.hid (cW.out w1.drew (HT.out w1.drew B1.out.drew))
        have HK1 := Lib.hid hk1
        have hlt1 : w.heap.size < w1.heap.size := (Array.getElem?_eq_some_iff.1 hk1).1
        clear hk1 b1 q0 q1
        go_upto_region 6 with fail
        go_cut [21] (fun v wx => v = .bool (y != 2) ∧ Aside (wx.heap[w.heap.size]? = some (.cells #[.string t, .int .i64 2, .int .i64 f, .int .i64 bb, .int .i64 g] 46) ∧ Below w.heap.size w wx))
        case first =>
          go_region_law (go_simp; refine cW1.out.mono ?_; rintro e w2 ⟨rfl, d2⟩; have hk2 := (d2.block w.heap.size hlt1).trans HK1.out; have s0 := cell_of_row w2 _ 0 _ _ _ hk2; have s1 := cell_of_row w2 _ 1 _ _ _ hk2; have HK2 := Lib.hid hk2; have B2 := Lib.hid (B1.out.drew.trans (d2.mono B1.out.drew.size)); clear hk2 d2)
          all_goals
            go_wp2
            go_meet
            exact ⟨rfl, HK2.out, B2.out⟩
        case rest =>
          obtain ⟨rfl, hA⟩ := hcut
          have s0 := cell_of_row wc _ 1 _ _ _ hA.out.1
          by_cases hy1 : y = 2
          · subst hy1
            clear r0 r1
            cases r with
            | nil =>
              have hm1 : m = 1 := by have := hml; simp at this; omega
              subst hm1
              go_wp2
              go_region
              go_wp2
              go_ret
              exact ⟨ret_int (by rw [← HRR.out]; simp), hA.out.2.drew⟩
            | cons d r =>
              obtain ⟨t', x', f', b', g'⟩ := d
              have hm2 : ¬ (m : Int) < 2 := by have := hml; simp at this; omega
              have hm3 : (1 : Int) < (m : Int) := by omega
              obtain ⟨q, hq⟩ : ∃ q, decide ((⟨t', x', f', b', g'⟩ : C) = ⟨⟨#[]⟩, 0, f, bb, g⟩) = q := ⟨_, rfl⟩
              have hneq := fun W => neq_cell t' ⟨#[]⟩ x' 0 f' f b' bb g' g W
              rw [hq] at hneq
              have HQ := Lib.hid hq
              have cH := fun W => half_any f bb g W
              have HA := Lib.hid hA.out
              clear hA hq s0 p0 p2 p3 p4
              go_upto_region 8 with fail
              go_cut [28] (fun v wx => v = .bool (!q) ∧ Aside (Below w.heap.size w wx))
              case first =>
                have mk : ∀ W : World, W.heap[w.heap.size]? = some (.cells #[.string t, .int .i64 2, .int .i64 f, .int .i64 bb, .int .i64 g] 46) → Below w.heap.size w W → (W.cell? ⟨w.heap.size, 1, none⟩ = some (.int .i64 2) ∧ W.cell? ⟨w.heap.size, 2, none⟩ = some (.int .i64 f) ∧ W.cell? ⟨w.heap.size, 3, none⟩ = some (.int .i64 bb) ∧ W.cell? ⟨w.heap.size, 4, none⟩ = some (.int .i64 g) ∧ W.cell? ⟨b, off + 5, none⟩ = some (.string t') ∧ W.cell? ⟨b, off + 5 + 1, none⟩ = some (.int .i64 x') ∧ W.cell? ⟨b, off + 5 + 2, none⟩ = some (.int .i64 f') ∧ W.cell? ⟨b, off + 5 + 3, none⟩ = some (.int .i64 b') ∧ W.cell? ⟨b, off + 5 + 4, none⟩ = some (.int .i64 g') ∧ Aside (W.heap[w.heap.size]? = some (.cells #[.string t, .int .i64 2, .int .i64 f, .int .i64 bb, .int .i64 g] 46) ∧ Below w.heap.size w W)) := by
                  intro W h1 h2
                  obtain ⟨u0, u1, u2, u3, u4⟩ := second_at (HR.out.below h2)
                  exact ⟨cell_of_row W _ 1 _ _ _ h1, cell_of_row W _ 2 _ _ _ h1, cell_of_row W _ 3 _ _ _ h1, cell_of_row W _ 4 _ _ _ h1, u0, u1, u2, u3, u4, ⟨h1, h2⟩⟩
                have keep : ∀ {W W' : World}, (W.cell? ⟨w.heap.size, 1, none⟩ = some (.int .i64 2) ∧ W.cell? ⟨w.heap.size, 2, none⟩ = some (.int .i64 f) ∧ W.cell? ⟨w.heap.size, 3, none⟩ = some (.int .i64 bb) ∧ W.cell? ⟨w.heap.size, 4, none⟩ = some (.int .i64 g) ∧ W.cell? ⟨b, off + 5, none⟩ = some (.string t') ∧ W.cell? ⟨b, off + 5 + 1, none⟩ = some (.int .i64 x') ∧ W.cell? ⟨b, off + 5 + 2, none⟩ = some (.int .i64 f') ∧ W.cell? ⟨b, off + 5 + 3, none⟩ = some (.int .i64 b') ∧ W.cell? ⟨b, off + 5 + 4, none⟩ = some (.int .i64 g') ∧ Aside (W.heap[w.heap.size]? = some (.cells #[.string t, .int .i64 2, .int .i64 f, .int .i64 bb, .int .i64 g] 46) ∧ Below w.heap.size w W)) → Below W.heap.size W W' → (W'.cell? ⟨w.heap.size, 1, none⟩ = some (.int .i64 2) ∧ W'.cell? ⟨w.heap.size, 2, none⟩ = some (.int .i64 f) ∧ W'.cell? ⟨w.heap.size, 3, none⟩ = some (.int .i64 bb) ∧ W'.cell? ⟨w.heap.size, 4, none⟩ = some (.int .i64 g) ∧ W'.cell? ⟨b, off + 5, none⟩ = some (.string t') ∧ W'.cell? ⟨b, off + 5 + 1, none⟩ = some (.int .i64 x') ∧ W'.cell? ⟨b, off + 5 + 2, none⟩ = some (.int .i64 f') ∧ W'.cell? ⟨b, off + 5 + 3, none⟩ = some (.int .i64 b') ∧ W'.cell? ⟨b, off + 5 + 4, none⟩ = some (.int .i64 g') ∧ Aside (W'.heap[w.heap.size]? = some (.cells #[.string t, .int .i64 2, .int .i64 f, .int .i64 bb, .int .i64 g] 46) ∧ Below w.heap.size w W')) := by
                  intro W W' h hb
                  have h' := h.2.2.2.2.2.2.2.2.2.out
                  exact mk W' ((hb.block _ (Array.getElem?_eq_some_iff.1 h'.1).1).trans h'.1) (h'.2.trans (hb.mono h'.2.size))
                have hS := mk wc.drew HA.out.1 HA.out.2.drew
                clear mk
                go_region_held3 (fun W => W.cell? ⟨w.heap.size, 1, none⟩ = some (.int .i64 2) ∧ W.cell? ⟨w.heap.size, 2, none⟩ = some (.int .i64 f) ∧ W.cell? ⟨w.heap.size, 3, none⟩ = some (.int .i64 bb) ∧ W.cell? ⟨w.heap.size, 4, none⟩ = some (.int .i64 g) ∧ W.cell? ⟨b, off + 5, none⟩ = some (.string t') ∧ W.cell? ⟨b, off + 5 + 1, none⟩ = some (.int .i64 x') ∧ W.cell? ⟨b, off + 5 + 2, none⟩ = some (.int .i64 f') ∧ W.cell? ⟨b, off + 5 + 3, none⟩ = some (.int .i64 b') ∧ W.cell? ⟨b, off + 5 + 4, none⟩ = some (.int .i64 g') ∧ Aside (W.heap[w.heap.size]? = some (.cells #[.string t, .int .i64 2, .int .i64 f, .int .i64 bb, .int .i64 g] 46) ∧ Below w.heap.size w W))
                  (assumption)
                  (first | (go_at_call 59; refine (cH _).mono ?_; rintro e w' ⟨rfl, hb'⟩; have hs' := keep (by assumption) hb'))
                clear keep hS cH
                go_wp2
                go_meet
                exact ⟨rfl, hs'.2.2.2.2.2.2.2.2.2.out.2⟩
              case rest =>
                obtain ⟨rfl, hA⟩ := hcut
                cases q
                · have hne : (⟨t', x', f', b', g'⟩ : C) ≠ ⟨⟨#[]⟩, 0, f, bb, g⟩ := of_decide_eq_false HQ.out
                  have HNE := Lib.hid hne
                  clear hne hneq
                  go_wp2
                  go_ret
                  exact ⟨ret_int (by rw [← HRR.out, if_neg (by simp), if_pos (by first | exact ⟨rfl, fun e => HNE.out (Option.some.inj e)⟩ | exact ⟨trivial, fun e => HNE.out (Option.some.inj e)⟩)]; rfl), hA.out⟩
                · have he : (⟨t', x', f', b', g'⟩ : C) = ⟨⟨#[]⟩, 0, f, bb, g⟩ := of_decide_eq_true HQ.out
                  have HE := Lib.hid he
                  clear he hneq
                  go_wp2
                  go_ret
                  exact ⟨ret_int (by rw [← HRR.out, if_neg (by simp), if_neg (fun e => e.2 (congrArg some HE.out))]; rfl), hA.out⟩
          · have y1 : (y != 2) = true := by simpa using hy1
            clear r0 r1
            go_wp2
            go_ret
            exact ⟨ret_int (by rw [← HRR.out, if_pos hy1]; rfl), hA.out.2⟩

end Go.Proofs.YtgmgnlgolhjhmaaDoor
