/-
  The statement on proper results returns true.
-/
import Derived.Test.YtokeaoapcjlmkaaDoorGrAwake
import Derived.Test.YtokeaoapcjlmkaaDoorGrClear
import Derived.Test.YtokeaoapcjlmkaaDoorGrResize
namespace Go.Proofs.YtokeaoapcjlmkaaDoor
open Go.RowKit Go.Shelf Cr Gd

/-- What is asked of a result: none with an error, a proper grid of the size without. -/
def Fine (R : Res) (X Y : Int) : Prop := (R.E ≠ 0 ∧ R.W = 0 ∧ R.L = [] ∧ R.M = []) ∨ (R.E = 0 ∧ R.W = X ∧ R.H = Y ∧ gE R.W R.H R.L = 0 ∧ SmR R.L)
theorem fine_bad {e : Nat} (h : e ≠ 0) (X Y : Int) : Fine (bad e) X Y := .inl ⟨h, rfl, rfl, rfl⟩
theorem lim_ok (t b d : Int) (h : t < b) : ((max (lim t b d) 0).toNat + (max (-(lim t b d)) 0).toNat : Nat) ≤ (b - t).toNat := by unfold lim; omega
theorem fine_scroll {v h : Nat} {L : List (List C)} (g : Gd.Good v h L) (hs : SmR L) (t b d c : Int) : Fine (scrollR (v : Int) (h : Int) L t b d c) (v : Int) (h : Int) := by
  unfold scrollR
  rw [if_neg (by rw [good_gE g]; decide)]
  split
  · exact fine_bad (by decide) _ _
  · rename_i hr
    have hr' := Decidable.not_not.1 hr
    have := lim_ok t b d hr'.2.1
    refine .inr ⟨rfl, rfl, rfl, ?_, ?_⟩
    · show gE (v : Int) (h : Int) (scr _ _ _ _ _ _) = 0
      rw [Int.toNat_natCast]
      exact good_gE (g.scr c (by omega) (by omega) (by omega))
    · show SmR (scr _ _ _ _ _ _)
      exact hs.scr _ _ _ _ _ _
theorem fine_clear {v h : Nat} {L : List (List C)} (g : Gd.Good v h L) (hs : SmR L) (f t c : Int) : Fine (clearR (v : Int) (h : Int) L f t c) (v : Int) (h : Int) := by
  unfold clearR
  rw [if_neg (by rw [good_gE g]; decide)]
  split
  · exact fine_bad (by decide) _ _
  · rename_i hr
    have hr' := Decidable.not_not.1 hr
    refine .inr ⟨rfl, rfl, rfl, ?_, ?_⟩
    · show gE (v : Int) (h : Int) (clr _ _ _ _) = 0
      rw [Int.toNat_natCast]
      exact good_gE (g.clr c (by omega) (by omega))
    · show SmR (clr _ _ _ _)
      exact hs.clr _ _ _ _
theorem fine_resize {v h : Nat} {L : List (List C)} (g : Gd.Good v h L) (hs : SmR L) (x y : Int) : Fine (resizeR (v : Int) (h : Int) L x y) x y := by
  unfold resizeR
  rw [if_neg (by rw [good_gE g]; decide)]
  split
  · exact fine_bad (by decide) _ _
  · rename_i hr
    obtain ⟨a1, a2, a3, a4⟩ := Decidable.not_not.1 hr
    obtain ⟨i, rfl⟩ : ∃ i : Nat, x = (i : Int) := ⟨x.toNat, by omega⟩
    obtain ⟨j, rfl⟩ : ∃ j : Nat, y = (j : Int) := ⟨y.toNat, by omega⟩
    refine .inr ⟨rfl, rfl, rfl, ?_, ?_⟩
    · show gE (i : Int) (j : Int) (rsz _ _ _) = 0
      rw [Int.toNat_natCast, Int.toNat_natCast]
      exact good_gE (g.rsz (by omega) (by omega) (by omega) (by omega))
    · show SmR (rsz _ _ _)
      exact hs.rsz _ _

theorem fine_len {R : Res} {X Y : Int} (h : Fine R X Y) : R.L.length ≤ 60 := by
  rcases h with ⟨_, _, h3, _⟩ | ⟨_, _, _, h4, _⟩
  · rw [h3]; decide
  · obtain ⟨v, k, _, _, g⟩ := gE_good h4
    have := g.2.2.2.1
    have := g.2.2.2.2.1
    omega
theorem fine_out {R : Res} {X Y : Int} (h : Fine R X Y) : R.E = 0 ∨ (R.E ≠ 0 ∧ R.M.length = 0) := by
  rcases h with ⟨h1, _, _, h4⟩ | ⟨h1, _⟩
  · exact .inr ⟨h1, by rw [h4]; rfl⟩
  · exact .inl h1

set_option maxHeartbeats 2000000 in
set_option maxRecDepth 100000 in
/-- The function inside the statement. -/
theorem sizedFn_any (R : Res) (A : Option Addr) (n c : Nat) (X Y : Int) (w : World) (hr : RdR w A n R.L) (hn : n ≤ 9223372036854775807) (hF : Fine R X Y) (hT : Lib.Utf8Tabs 0 1 w) :
    Calls Tryd.prog 28 #[.agg #[.int .i64 R.W, .int .i64 R.H, .slice A n c], .int .i64 (R.E : Int), .int .i64 X, .int .i64 Y] w fun e w' => e = .returned (.bool true) ∧ Below w.heap.size w w' := by
  obtain ⟨E, W, H, L, M⟩ := R
  have bV := (Below.refl w.heap.size w).alloc (Nat.le_refl _) (.cells #[.int .i64 W, .int .i64 H, .slice A n c] 24)
  have HV := Lib.hid bV
  rcases hF with ⟨h1, h2, h3, _⟩ | ⟨h1, h2, h3, h4, h5⟩
  · simp only at h1 h2 h3 hr ⊢
    subst h2 h3
    have hn0 : n = 0 := hr.1.symm
    subst hn0
    have hqb : (((E : Nat) : Int) != 0) = true := nat_ne h1
    clear bV hr
    go_enter Tryd.func28, Tryd.ntmps28
    go_wp2
    go_ret
    exact ⟨rfl, HV.out⟩
  · simp only at h1 h2 h3 h4 h5 hr ⊢
    subst h1 h2 h3
    have CC := Lib.hid (gcheck_any W H A n c L _ (hr.below bV) hn h5 (Utf8Tabs_below hT bV))
    rw [h4] at CC
    have e1 : (W == W) = true := beq_self_eq_true W
    have e2 : (H == H) = true := beq_self_eq_true H
    clear bV hr h4 h5 hT
    go_enter Tryd.func28, Tryd.ntmps28
    go_wp2_with fail
    refine CC.out.mono ?_
    rintro e w1 ⟨rfl, b1⟩
    have B1 := Lib.hid (HV.out.trans (b1.mono HV.out.size))
    clear b1
    go_wp2
    go_ret
    exact ⟨rfl, B1.out⟩

/-- The world behind the entry of a statement with a grid and a rendition. -/
theorem ga_in (w : World) (W H : Int) (A : Option Addr) (n c : Nat) (f b g : Int) :
    Kg ((w.alloc (.cells #[.int .i64 W, .int .i64 H, .slice A n c] 24)).alloc (.cells #[.int .i64 f, .int .i64 b, .int .i64 g] 34)) w.heap.size W H A n c ∧
    ((w.alloc (.cells #[.int .i64 W, .int .i64 H, .slice A n c] 24)).alloc (.cells #[.int .i64 f, .int .i64 b, .int .i64 g] 34)).heap[w.heap.size + 1]? = some (.cells #[.int .i64 f, .int .i64 b, .int .i64 g] 34) ∧
    Below w.heap.size w ((w.alloc (.cells #[.int .i64 W, .int .i64 H, .slice A n c] 24)).alloc (.cells #[.int .i64 f, .int .i64 b, .int .i64 g] 34)) := by
  have h1 := Kg.new w W H A n c
  have b1 := (Below.refl w.heap.size w).alloc (Nat.le_refl _) (.cells #[.int .i64 W, .int .i64 H, .slice A n c] 24)
  have e1 : (w.alloc (.cells #[.int .i64 W, .int .i64 H, .slice A n c] 24)).heap.size = w.heap.size + 1 := by simp
  generalize w.alloc (.cells #[.int .i64 W, .int .i64 H, .slice A n c] 24) = w1 at h1 b1 e1 ⊢
  have h2 := heap_alloc_new w1 (.cells #[.int .i64 f, .int .i64 b, .int .i64 g] 34)
  have b2 := (Below.refl w1.heap.size w1).alloc (Nat.le_refl _) (.cells #[.int .i64 f, .int .i64 b, .int .i64 g] 34)
  rw [e1] at h2
  exact ⟨h1.below b2, h2, b1.trans (b2.mono b1.size)⟩
/-- A rendition lies in the block k. -/
def Ka (w : World) (k : Nat) (f b g : Int) : Prop := w.heap[k]? = some (.cells #[.int .i64 f, .int .i64 b, .int .i64 g] 34)
theorem Ka.below {w w' : World} {k : Nat} {f b g : Int} (h : Ka w k f b g) (hb : Below w.heap.size w w') : Ka w' k f b g := (hb.block k (Array.getElem?_eq_some_iff.1 h).1).trans h
theorem Ka.c0 {w : World} {k : Nat} {f b g : Int} (h : Ka w k f b g) : w.cell? ⟨k, 0, none⟩ = some (.int .i64 f) := cell_of_row w k 0 _ _ _ h
theorem Ka.c1 {w : World} {k : Nat} {f b g : Int} (h : Ka w k f b g) : w.cell? ⟨k, 1, none⟩ = some (.int .i64 b) := cell_of_row w k 1 _ _ _ h
theorem Ka.c2 {w : World} {k : Nat} {f b g : Int} (h : Ka w k f b g) : w.cell? ⟨k, 2, none⟩ = some (.int .i64 g) := cell_of_row w k 2 _ _ _ h
theorem right_ok {W H : Int} {L : List (List C)} (h : ¬ (greatR L = true ∨ gE W H L ≠ 0)) : greatR L = false ∧ gE W H L = 0 := by
  refine ⟨?_, ?_⟩
  · cases e : greatR L
    · rfl
    · exact absurd (.inl e) h
  · by_cases e : gE W H L = 0
    · exact e
    · exact absurd (.inr e) h

set_option maxHeartbeats 4000000 in
set_option maxRecDepth 100000 in
theorem properlaw_walk (W H : Int) (A : Option Addr) (n c : Nat) (L : List (List C)) (tp bt d f b g : Int) (w : World) (hr : RdR w A n L) (hnc : n ≤ c) (hmax : n ≤ 9223372036854775807) (hT : Lib.Utf8Tabs 0 1 w) :
    Calls Tryd.prog 7 #[.agg #[.int .i64 W, .int .i64 H, .slice A n c], .int .i64 tp, .int .i64 bt, .int .i64 d, .agg #[.int .i64 f, .int .i64 b, .int .i64 g]] w fun e w' => e = .returned (.bool true) ∧ Below w.heap.size w w' := by
  obtain ⟨V, hV⟩ : ∃ V, (w.alloc (.cells #[.int .i64 W, .int .i64 H, .slice A n c] 24)).alloc (.cells #[.int .i64 f, .int .i64 b, .int .i64 g] 34) = V := ⟨_, rfl⟩
  obtain ⟨k1, kA, bV⟩ := ga_in w W H A n c f b g
  rw [hV] at k1 kA bV
  have K1 := Lib.hid k1
  have KA : Hid (Ka V (w.heap.size + 1) f b g) := Lib.hid kA
  have BV := Lib.hid bV
  have HR := Lib.hid (fun U (h : Below V.heap.size V U) => hr.below (bV.trans (h.mono bV.size)))
  have HT := Lib.hid (fun U (h : Below V.heap.size V U) => Utf8Tabs_below hT (bV.trans (h.mono bV.size)))
  have CR := Lib.hid (right_any W H A n c L V (hr.below bV) hmax)
  clear hr hT k1 kA bV
  by_cases hq : greatR L = true ∨ gE W H L ≠ 0
  · rw [if_pos hq] at CR
    clear hq
    subst hV
    go_enter Tryd.func7, Tryd.ntmps7
    go_wp2_with fail
    refine CR.out.mono ?_
    rintro e w1 ⟨rfl, b1⟩
    have CW := Lib.hid (awake_true w1 (HT.out w1 b1))
    have B1 := Lib.hid (BV.out.trans (b1.mono BV.out.size))
    clear b1
    go_wp2_with fail
    refine CW.out.mono ?_
    rintro e w2 ⟨rfl, b2⟩
    have B2 := Lib.hid (B1.out.trans (b2.mono B1.out.size))
    clear b2
    go_wp2
    go_ret
    exact ⟨rfl, B2.out⟩
  · rw [if_neg hq] at CR
    obtain ⟨hgr, hgE⟩ := right_ok hq
    obtain ⟨hl10, hsm, hlen⟩ := greatR_false hgr
    obtain ⟨v, h, rfl, rfl, hgood⟩ := gE_good hgE
    have CS := Lib.hid (fun U (hu : Below V.heap.size V U) => gscroll_any (v : Int) (h : Int) A n c L tp bt d f b g U (HR.out U hu) hnc hmax hsm (HT.out U hu))
    have CC := Lib.hid (fun U (hu : Below V.heap.size V U) => gclear_any (v : Int) (h : Int) A n c L tp bt f b g U (HR.out U hu) hnc hmax hsm (HT.out U hu))
    have CZ := Lib.hid (fun U (hu : Below V.heap.size V U) => gresize_any (v : Int) (h : Int) A n c L bt d U (HR.out U hu) hnc hmax hsm (HT.out U hu))
    have F1 := Lib.hid (fine_scroll hgood hsm tp bt d b)
    have F2 := Lib.hid (fine_clear hgood hsm tp bt b)
    have F3 := Lib.hid (fine_resize hgood hsm bt d)
    generalize scrollR (v : Int) (h : Int) L tp bt d b = R1 at CS F1
    generalize clearR (v : Int) (h : Int) L tp bt b = R2 at CC F2
    generalize resizeR (v : Int) (h : Int) L bt d = R3 at CZ F3
    have CF := Lib.hid (fun R A n c X Y U hr' hn' hF' (hu : Below V.heap.size V U) => sizedFn_any R A n c X Y U hr' hn' hF' (HT.out U hu))
    have CW := Lib.hid (fun U (hu : Below V.heap.size V U) => awake_true U (HT.out U hu))
    clear hq hgr hgE hl10 hsm hlen hgood
    subst hV
    go_enter Tryd.func7, Tryd.ntmps7
    go_wp2_with fail
    refine CR.out.mono ?_
    rintro e w1 ⟨rfl, b1⟩
    have D1 := Lib.hid b1
    have p0 := (K1.out.below b1).c0
    have p1 := (K1.out.below b1).c1
    have p2 := (K1.out.below b1).c2
    have a0 := (KA.out.below b1).c0
    have a1 := (KA.out.below b1).c1
    have a2 := (KA.out.below b1).c2
    have CS1 := Lib.hid (CS.out w1 b1)
    clear b1 CR CS
    go_wp2_with fail
    refine CS1.out.mono ?_
    rintro e w2 ⟨A2, n2, c2, A2', n2', c2', rfl, g2, g2', b2⟩
    have bx := (Below.refl w2.heap.size w2).alloc (Nat.le_refl _) (.cells #[.int .i64 R1.W, .int .i64 R1.H, .slice A2 n2 c2] 24)
    have d2 := D1.out.trans ((b2.trans (bx.mono b2.size)).mono D1.out.size)
    have D2 := Lib.hid d2
    have KX := Lib.hid (Kg.new w2 R1.W R1.H A2 n2 c2)
    have GX := Lib.hid (g2.below bx)
    have HM := Lib.hid g2'.1.1
    clear p0 p1 p2 a0 a1 a2 CS1 g2 g2' b2 bx
    have p0 := (K1.out.below d2).c0
    have p1 := (K1.out.below d2).c1
    have p2 := (K1.out.below d2).c2
    have a0 := (KA.out.below d2).c0
    have a1 := (KA.out.below d2).c1
    have a2 := (KA.out.below d2).c2
    have CC1 := Lib.hid (CC.out _ d2)
    clear d2 CC
    go_wp2_with fail
    refine CC1.out.mono ?_
    rintro e w3 ⟨A3, n3, c3, rfl, g3, b3⟩
    have bx := (Below.refl w3.heap.size w3).alloc (Nat.le_refl _) (.cells #[.int .i64 R2.W, .int .i64 R2.H, .slice A3 n3 c3] 24)
    have s3 := b3.trans (bx.mono b3.size)
    have d3 := D2.out.trans (s3.mono D2.out.size)
    have D3 := Lib.hid d3
    have KX3 := Lib.hid (KX.out.below s3)
    have GX3 := Lib.hid (GX.out.below s3)
    have KY := Lib.hid (Kg.new w3 R2.W R2.H A3 n3 c3)
    have GY := Lib.hid (g3.below bx)
    clear p0 p1 p2 a0 a1 a2 CC1 g3 b3 bx s3 KX GX
    have p0 := (K1.out.below d3).c0
    have p1 := (K1.out.below d3).c1
    have p2 := (K1.out.below d3).c2
    have CZ1 := Lib.hid (CZ.out _ d3)
    clear d3 CZ
    go_wp2_with fail
    refine CZ1.out.mono ?_
    rintro e w4 ⟨A4, n4, c4, rfl, g4, b4⟩
    have bx := (Below.refl w4.heap.size w4).alloc (Nat.le_refl _) (.cells #[.int .i64 R3.W, .int .i64 R3.H, .slice A4 n4 c4] 24)
    have s4 := b4.trans (bx.mono b4.size)
    have d4 := D3.out.trans (s4.mono D3.out.size)
    have D4 := Lib.hid d4
    have KX4 := Lib.hid (KX3.out.below s4)
    have GX4 := Lib.hid (GX3.out.below s4)
    have KY4 := Lib.hid (KY.out.below s4)
    have GY4 := Lib.hid (GY.out.below s4)
    have KZ := Lib.hid (Kg.new w4 R3.W R3.H A4 n4 c4)
    have GZ := Lib.hid (g4.below bx)
    clear p0 p1 p2 CZ1 g4 b4 bx s4 KX3 GX3 KY GY
    have p0 := (K1.out.below d4).c0
    have p1 := (K1.out.below d4).c1
    have x0 := KX4.out.c0
    have x1 := KX4.out.c1
    have x2 := KX4.out.c2
    have CF1 := Lib.hid (CF.out R1 A2 n2 c2 (v : Int) (h : Int) _ GX4.out.1 (by have := fine_len F1.out; have := GX4.out.1.1; omega) F1.out d4)
    clear d4
    go_wp2_with fail
    refine CF1.out.mono ?_
    rintro e w5 ⟨rfl, b5⟩
    have D5 := Lib.hid (D4.out.trans (b5.mono D4.out.size))
    have KY5 := Lib.hid (KY4.out.below b5)
    have GY5 := Lib.hid (GY4.out.below b5)
    have KZ5 := Lib.hid (KZ.out.below b5)
    have GZ5 := Lib.hid (GZ.out.below b5)
    clear b5 p0 p1 x0 x1 x2 CF1 KY4 GY4 KZ GZ KX4 GX4
    have p0 := (K1.out.below D5.out).c0
    have p1 := (K1.out.below D5.out).c1
    have y0 := KY5.out.c0
    have y1 := KY5.out.c1
    have y2 := KY5.out.c2
    have CF2 := Lib.hid (CF.out R2 A3 n3 c3 (v : Int) (h : Int) w5 GY5.out.1 (by have := fine_len F2.out; have := GY5.out.1.1; omega) F2.out D5.out)
    rcases fine_out F1.out with hz | ⟨hz, hz2⟩
    · have e1 : (((R1.E : Nat) : Int) == 0) = true := by rw [hz]; rfl
      go_wp2_with fail
      refine CF2.out.mono ?_
      rintro e w6 ⟨rfl, b6⟩
      have D6 := Lib.hid (D5.out.trans (b6.mono D5.out.size))
      have z0 := (KZ5.out.below b6).c0
      have z1 := (KZ5.out.below b6).c1
      have z2 := (KZ5.out.below b6).c2
      have CF3 := Lib.hid (CF.out R3 A4 n4 c4 bt d w6 (GZ5.out.below b6).1 (by have := fine_len F3.out; have := GZ5.out.1.1; omega) F3.out D6.out)
      clear b6 y0 y1 y2 p0 p1
      go_wp2_with fail
      refine CF3.out.mono ?_
      rintro e w7 ⟨rfl, b7⟩
      have D7 := Lib.hid (D6.out.trans (b7.mono D6.out.size))
      have CW1 := Lib.hid (CW.out w7 D7.out)
      clear b7 z0 z1 z2
      go_wp2_with fail
      refine CW1.out.mono ?_
      rintro e w8 ⟨rfl, b8⟩
      have D8 := Lib.hid (BV.out.trans ((D7.out.trans (b8.mono D7.out.size)).mono BV.out.size))
      clear b8
      go_wp2
      go_ret
      exact ⟨rfl, D8.out⟩
    · have e1 : (((R1.E : Nat) : Int) == 0) = false := by simpa using hz
      have hn0 : n2' = 0 := by rw [← HM.out, hz2]
      subst hn0
      go_wp2_with fail
      refine CF2.out.mono ?_
      rintro e w6 ⟨rfl, b6⟩
      have D6 := Lib.hid (D5.out.trans (b6.mono D5.out.size))
      have z0 := (KZ5.out.below b6).c0
      have z1 := (KZ5.out.below b6).c1
      have z2 := (KZ5.out.below b6).c2
      have CF3 := Lib.hid (CF.out R3 A4 n4 c4 bt d w6 (GZ5.out.below b6).1 (by have := fine_len F3.out; have := GZ5.out.1.1; omega) F3.out D6.out)
      clear b6 y0 y1 y2 p0 p1
      go_wp2_with fail
      refine CF3.out.mono ?_
      rintro e w7 ⟨rfl, b7⟩
      have D7 := Lib.hid (D6.out.trans (b7.mono D6.out.size))
      have CW1 := Lib.hid (CW.out w7 D7.out)
      clear b7 z0 z1 z2
      go_wp2_with fail
      refine CW1.out.mono ?_
      rintro e w8 ⟨rfl, b8⟩
      have D8 := Lib.hid (BV.out.trans ((D7.out.trans (b8.mono D7.out.size)).mono BV.out.size))
      clear b8
      go_wp2
      go_ret
      exact ⟨rfl, D8.out⟩

end Go.Proofs.YtokeaoapcjlmkaaDoor
