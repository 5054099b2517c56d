/-
  The examples of the chapter hold: the function awake of layer 12's statements returns true.
-/
import Derived.Test.YtgmgnlgolhjhmaaDoorSbRows
import Derived.Test.YtgmgnlgolhjhmaaDoorSbRefW
import Derived.Test.YtgmgnlgolhjhmaaDoorGrSame
import Derived.Deep.RegionHeld3
import Derived.Deep.DeepCutAuto
namespace Go.Proofs.YtgmgnlgolhjhmaaDoor
open Go.RowKit Go.Shelf Cr Gd

def rAB : List (List C) := [[pl ⟨#[97]⟩ 1], [pl ⟨#[98]⟩ 1]]
def rXY : List (List C) := [[pl ⟨#[120]⟩ 1], [pl ⟨#[121]⟩ 1]]
def rYA : List (List C) := [[pl ⟨#[121]⟩ 1], [pl ⟨#[97]⟩ 1]]
theorem col_ab : colL ⟨#[97, 98]⟩ 2 = rAB := by decide
theorem col_xy : colL ⟨#[120, 121]⟩ 2 = rXY := by decide
theorem col_ya : colL ⟨#[121, 97]⟩ 2 = rYA := by decide
theorem l_ok {t : ByteArray} {r : Int} (h1 : t.data.toList = U8.encL [r]) (h2 : Cl.isBase r = true) (h3 : Cl.widthOf [r] = 1) : Pr [pl t 1] := .one (pl_narrow ⟨(ok_of t r h1 h2).1, (ok_of t r h1 h2).2.trans h3⟩) .nil
theorem pA : Pr [pl ⟨#[97]⟩ 1] := l_ok (r := 97) (by decide) (by decide) (by decide)
theorem pB : Pr [pl ⟨#[98]⟩ 1] := l_ok (r := 98) (by decide) (by decide) (by decide)
theorem pX : Pr [pl ⟨#[120]⟩ 1] := l_ok (r := 120) (by decide) (by decide) (by decide)
theorem pY : Pr [pl ⟨#[121]⟩ 1] := l_ok (r := 121) (by decide) (by decide) (by decide)
theorem ab_good : Gd.Good 1 2 rAB := by
  refine ⟨by decide, by decide, by decide, by decide, rfl, fun l hl => ?_⟩
  simp only [rAB, List.mem_cons, List.not_mem_nil, or_false] at hl
  rcases hl with rfl | rfl
  · exact ⟨rfl, pA⟩
  · exact ⟨rfl, pB⟩
theorem c_ok {l : List C} (h : Pr l) (hl : l.length = 1) : check l = 0 ∧ fit l 1 = l := ⟨check_good h (by omega) (by omega), by rw [← hl]; exact fit_self h⟩
theorem win1 : winR rXY 1 2 rAB 1 = ⟨0, 1, 2, rYA, []⟩ := by
  have e : winY rXY rAB 2 1 = rYA := by decide
  have h := win_ok (L := rXY) (bk := 1) ab_good (by decide) (by
    rw [e]
    intro y hy
    simp only [rYA, List.mem_cons, List.not_mem_nil, or_false] at hy
    rcases hy with rfl | rfl
    · exact (c_ok pY rfl).1
    · exact (c_ok pA rfl).1)
  rw [e] at h
  have e2 : rYA.map (fun y => fit y 1) = rYA := by
    show [fit _ 1, fit _ 1] = _
    rw [(c_ok pY rfl).2, (c_ok pA rfl).2]
    rfl
  rw [e2] at h
  exact h
theorem win2 : winR rXY 1 2 rAB 2 = ⟨0, 1, 2, rXY, []⟩ := by
  have e : winY rXY rAB 2 2 = rXY := by decide
  have h := win_ok (L := rXY) (bk := 2) ab_good (by decide) (by
    rw [e]
    intro y hy
    simp only [rXY, List.mem_cons, List.not_mem_nil, or_false] at hy
    rcases hy with rfl | rfl
    · exact (c_ok pX rfl).1
    · exact (c_ok pY rfl).1)
  rw [e] at h
  have e2 : rXY.map (fun y => fit y 1) = rXY := by
    show [fit _ 1, fit _ 1] = _
    rw [(c_ok pX rfl).2, (c_ok pY rfl).2]
    rfl
  rw [e2] at h
  exact h
theorem win3 : winR rXY 1 2 rAB 3 = bad 2 := by
  unfold winR
  have h := good_gE ab_good
  rw [show gE 1 2 rAB = 0 from h, if_neg (by decide), if_pos (by decide)]
theorem sm1 {a b : UInt8} : SmR [[pl ⟨#[a]⟩ 1], [pl ⟨#[b]⟩ 1]] := by
  intro l hl x hx
  simp only [List.mem_cons, List.not_mem_nil, or_false] at hl
  rcases hl with rfl | rfl <;> (simp only [List.mem_cons, List.not_mem_nil, or_false] at hx; subst hx; show (1 : Nat) ≤ 300; decide)
theorem sz1 {L : List (List C)} (h : ∀ l ∈ L, l.length ≤ 1) : Sz L := fun l hl => by have := h l hl; omega

theorem colAB (U : World) : Calls Tryd.prog 31 #[.string ⟨#[97, 98]⟩] U fun e w' => ∃ A c, e = .returned (.slice A 2 c) ∧ GR U w' (.slice A 2 c) rAB := by
  have h := rows_any ⟨#[97, 98]⟩ 2 rfl (by decide) (by decide) U
  rw [col_ab] at h
  exact h
theorem colXY (U : World) : Calls Tryd.prog 31 #[.string ⟨#[120, 121]⟩] U fun e w' => ∃ A c, e = .returned (.slice A 2 c) ∧ GR U w' (.slice A 2 c) rXY := by
  have h := rows_any ⟨#[120, 121]⟩ 2 rfl (by decide) (by decide) U
  rw [col_xy] at h
  exact h
theorem colYA (U : World) : Calls Tryd.prog 31 #[.string ⟨#[121, 97]⟩] U fun e w' => ∃ A c, e = .returned (.slice A 2 c) ∧ GR U w' (.slice A 2 c) rYA := by
  have h := rows_any ⟨#[121, 97]⟩ 2 rfl (by decide) (by decide) U
  rw [col_ya] at h
  exact h
/-- A window of the example's rows. -/
theorem winXY (A1 A6 : Option Addr) (c1 c6 : Nat) (back : Int) (U : World) (h6 : RdR U A6 2 rXY) (hc6 : 2 ≤ c6) (hn6 : A6 = none → c6 = 0) (h1 : RdR U A1 2 rAB) (hc1 : 2 ≤ c1) (hT : Lib.Utf8Tabs 0 1 U) :
    Calls Tryd.prog 22 #[.slice A6 2 c6, .agg #[.int .i64 1, .int .i64 2, .slice A1 2 c1], .int .i64 back] U (Out2 U (winR rXY 1 2 rAB back)) :=
  window_any A6 2 c6 rXY 1 2 A1 2 c1 rAB back U h6 hc6 (by decide) hn6 h1 hc1 (by decide) sm1 sm1 hT

/-- A window in a variable of its own, made since V. -/
def Vw (V U : World) (k : Nat) (R : Res) : Prop := ∃ A n c, Kg U k R.W R.H A n c ∧ RdR U A n R.L ∧ Below V.heap.size V U
theorem vw_late {V w6 w7 : World} {R : Res} {A : Option Addr} {n c : Nat} (h : Gv w6 w7 A n c R.L) (hb : Below V.heap.size V w7) : Vw V (w7.alloc (.cells #[.int .i64 R.W, .int .i64 R.H, .slice A n c] 35)) w7.heap.size R :=
  ⟨A, n, c, Kg.new w7 _ _ _ _ _, h.1.alloc _, hb.alloc hb.size _⟩
theorem vw_early {V w6 w7 : World} {R : Res} {A : Option Addr} {n c k : Nat} (h : Gv w6 w7 A n c R.L) (hb : Below V.heap.size V w7) (hk : Kg w7 k 0 0 none 0 0) (hlt : k < w6.heap.size) (hge : V.heap.size ≤ k) : Vw V (g3 w7 k R.W R.H (.slice A n c)) k R :=
  ⟨A, n, c, hk.put _ _ _ _ _, (h.g3 hk hlt _ _ _).1, below_g3 hb hge _ _ _⟩

set_option maxHeartbeats 16000000 in
set_option maxRecDepth 100000 in
theorem awake_true (w : World) (hT : Lib.Utf8Tabs 0 1 w) : Calls Tryd.prog 12 #[] w fun e w' => e = .returned (.bool true) ∧ Below w.heap.size w w' := by
  have HT := Lib.hid (fun U (h : Below w.heap.size w U) => Utf8Tabs_below hT h)
  clear hT
  go_enter Tryd.func12, Tryd.ntmps12
  go_wp2_with fail
  refine (colAB _).mono ?_
  rintro e w1 ⟨A1, c1, rfl, g1⟩
  obtain ⟨V, hV⟩ : ∃ V, w1.alloc (.cells #[.int .i64 1, .int .i64 2, .slice A1 2 c1] 35) = V := ⟨_, rfl⟩
  have KV : Hid (Kg V w1.heap.size 1 2 A1 2 c1) := Lib.hid (by rw [← hV]; exact Kg.new w1 _ _ _ _ _)
  have RV : Hid (RdR V A1 2 rAB) := Lib.hid (by rw [← hV]; exact g1.rd.1.alloc _)
  have HC1 := Lib.hid g1.rd.2.2.1
  have BV : Hid (Below w.heap.size w V) := Lib.hid (by rw [← hV]; exact g1.bel.alloc g1.bel.size _)
  clear g1
  go_upto_region 2 with fail
  skip
  obtain ⟨kg, hkg⟩ : ∃ kg, w1.heap.size = kg := ⟨_, rfl⟩
  rw [hkg] at KV ⊢
  clear hV hkg
  have p0 := KV.out.c0
  have p1 := KV.out.c1
  have p2 := KV.out.c2
  have bz := (Below.refl V.heap.size V).alloc (Nat.le_refl _) (.cells #[.int .i64 0, .int .i64 0, .slice none 0 0] 35)
  have z0 := (KV.out.below bz).c0
  have z1 := (KV.out.below bz).c1
  have z2 := (KV.out.below bz).c2
  have BZ := Lib.hid bz
  have KZ := Lib.hid (Kg.new V 0 0 none 0 0)
  clear bz
  go_cut [2, 3] (fun v2 v3 wx => v3 = .int .i64 0 ∧ ∃ k, v2 = .pointer (some ⟨k, 0, none⟩) ∧ Aside (Vw V wx k ⟨0, 1, 2, rYA, []⟩))
  case first =>
    go_region_law (first
      | (go_simp; refine (colXY V.drew).mono ?_; rintro e' w6 ⟨A6, c6, rfl, g6⟩; have b6 := ((Below.refl V.heap.size V).drew).trans (g6.bel); have bx6 := (Below.refl w6.heap.size w6).alloc (Nat.le_refl _) (.cells #[.int .i64 0, .int .i64 0, .slice none 0 0] 35); have b6x := b6.trans (bx6.mono b6.size); have u0 := (KV.out.below b6).c0; have u1 := (KV.out.below b6).c1; have u2 := (KV.out.below b6).c2; have y0 := (KV.out.below b6x).c0; have y1 := (KV.out.below b6x).c1; have y2 := (KV.out.below b6x).c2; have CWa := Lib.hid (winXY A1 A6 c1 c6 1 w6 g6.rd.1 g6.rd.2.2.1 (fun e => (g6.rd.2.1 e).2) (RV.out.below b6) HC1.out (HT.out _ (BV.out.trans (b6.mono BV.out.size)))); have CWc := Lib.hid (winXY A1 A6 c1 c6 1 (w6.alloc (.cells #[.int .i64 0, .int .i64 0, .slice none 0 0] 35)) (g6.rd.1.alloc _) g6.rd.2.2.1 (fun e => (g6.rd.2.1 e).2) (RV.out.below b6x) HC1.out (HT.out _ (BV.out.trans (b6x.mono BV.out.size)))); rw [win1] at CWa CWc; have B6 := Lib.hid b6; have B6X := Lib.hid b6x; have K6 := Lib.hid (Kg.new w6 0 0 none 0 0); have L6 : Hid (w6.heap.size < (w6.alloc (.cells #[.int .i64 0, .int .i64 0, .slice none 0 0] 35)).heap.size) := Lib.hid (by simp); have GE6 := Lib.hid b6.size; clear g6 b6 b6x bx6)
      | (go_simp; refine (colXY (V.alloc (.cells #[.int .i64 0, .int .i64 0, .slice none 0 0] 35)).drew).mono ?_; rintro e' w6 ⟨A6, c6, rfl, g6⟩; have b6 := (BZ.out.drew).trans (g6.bel.mono BZ.out.drew.size); have u0 := (KV.out.below b6).c0; have u1 := (KV.out.below b6).c1; have u2 := (KV.out.below b6).c2; have k6 := (KZ.out.below ((Below.refl _ _).drew)).below g6.bel; have CWb := Lib.hid (winXY A1 A6 c1 c6 1 w6 g6.rd.1 g6.rd.2.2.1 (fun e => (g6.rd.2.1 e).2) (RV.out.below b6) HC1.out (HT.out _ (BV.out.trans (b6.mono BV.out.size)))); rw [win1] at CWb; have B6 := Lib.hid b6; have K6 := Lib.hid k6; have L6 := Lib.hid k6.lt; have GE6 : Hid (V.heap.size ≤ V.heap.size) := Lib.hid (Nat.le_refl _); clear g6 b6 k6)
      | (go_simp; refine CWb.out.mono ?_; rintro e' w7 ⟨A7, n7, c7, rfl, g7, b7⟩; have k7 := K6.out.below b7; have q0 := k7.c0; have q1 := k7.c1; have q2 := k7.c2; have qz := k7.z; have FF := Lib.hid (vw_early (V := V) (R := ⟨0, 1, 2, rYA, []⟩) (k := V.heap.size) g7 (B6.out.trans (b7.mono B6.out.size)) k7 L6.out GE6.out); clear g7 b7 k7)
      | (go_simp; refine CWa.out.mono ?_; rintro e' w7 ⟨A7, n7, c7, rfl, g7, b7⟩; have FF := Lib.hid (vw_late (V := V) (R := ⟨0, 1, 2, rYA, []⟩) g7 (B6.out.trans (b7.mono B6.out.size))); clear g7 b7)
      | (go_simp; refine CWc.out.mono ?_; rintro e' w7 ⟨A7, n7, c7, rfl, g7, b7⟩; have k7 := K6.out.below b7; have q0 := k7.c0; have q1 := k7.c1; have q2 := k7.c2; have qz := k7.z; have FF := Lib.hid (vw_early (V := V) (R := ⟨0, 1, 2, rYA, []⟩) (k := w6.heap.size) g7 (B6X.out.trans (b7.mono B6X.out.size)) k7 L6.out GE6.out); clear g7 b7 k7))
    all_goals
      go_wp2
      go_meet
      exact ⟨rfl, _, rfl, FF.out⟩
  case rest =>
    obtain ⟨rfl, kx, rfl, hF⟩ := hcut
    obtain ⟨Ax, nx, cx, hkx, hrx, hbx⟩ := hF.out
    have hnx := hrx.1
    have KX := Lib.hid hkx
    have RX := Lib.hid hrx
    have KV2 := Lib.hid (KV.out.below hbx)
    have RV2 := Lib.hid (RV.out.below hbx)
    have BV2 := Lib.hid (BV.out.trans (hbx.mono BV.out.size))
    clear KV RV BV BZ KZ p0 p1 p2 z0 z1 z2 hF hkx hrx hbx
    have KV := KV2
    have RV := RV2
    have BV := BV2
    clear KV2 RV2 BV2
    go_upto_region 3 with fail
    generalize wc = W1 at *
    have p0 := KV.out.c0
    have p1 := KV.out.c1
    have p2 := KV.out.c2
    have bz := (Below.refl W1.heap.size W1).alloc (Nat.le_refl _) (.cells #[.int .i64 0, .int .i64 0, .slice none 0 0] 35)
    have z0 := (KV.out.below bz).c0
    have z1 := (KV.out.below bz).c1
    have z2 := (KV.out.below bz).c2
    have BZ := Lib.hid bz
    have KZ := Lib.hid (Kg.new W1 0 0 none 0 0)
    clear bz
    go_cut [4, 5] (fun v2 v3 wx => v3 = .int .i64 0 ∧ ∃ k, v2 = .pointer (some ⟨k, 0, none⟩) ∧ Aside (Vw W1 wx k ⟨0, 1, 2, rXY, []⟩))
    case first =>
      go_region_law (first
        | (go_simp; refine (colXY W1.drew).mono ?_; rintro e' w6 ⟨A6, c6, rfl, g6⟩; have b6 := ((Below.refl W1.heap.size W1).drew).trans (g6.bel); have bx6 := (Below.refl w6.heap.size w6).alloc (Nat.le_refl _) (.cells #[.int .i64 0, .int .i64 0, .slice none 0 0] 35); have b6x := b6.trans (bx6.mono b6.size); have u0 := (KV.out.below b6).c0; have u1 := (KV.out.below b6).c1; have u2 := (KV.out.below b6).c2; have y0 := (KV.out.below b6x).c0; have y1 := (KV.out.below b6x).c1; have y2 := (KV.out.below b6x).c2; have CWa := Lib.hid (winXY A1 A6 c1 c6 2 w6 g6.rd.1 g6.rd.2.2.1 (fun e => (g6.rd.2.1 e).2) (RV.out.below b6) HC1.out (HT.out _ (BV.out.trans (b6.mono BV.out.size)))); have CWc := Lib.hid (winXY A1 A6 c1 c6 2 (w6.alloc (.cells #[.int .i64 0, .int .i64 0, .slice none 0 0] 35)) (g6.rd.1.alloc _) g6.rd.2.2.1 (fun e => (g6.rd.2.1 e).2) (RV.out.below b6x) HC1.out (HT.out _ (BV.out.trans (b6x.mono BV.out.size)))); rw [win2] at CWa CWc; have B6 := Lib.hid b6; have B6X := Lib.hid b6x; have K6 := Lib.hid (Kg.new w6 0 0 none 0 0); have L6 : Hid (w6.heap.size < (w6.alloc (.cells #[.int .i64 0, .int .i64 0, .slice none 0 0] 35)).heap.size) := Lib.hid (by simp); have GE6 := Lib.hid b6.size; clear g6 b6 b6x bx6)
        | (go_simp; refine (colXY (W1.alloc (.cells #[.int .i64 0, .int .i64 0, .slice none 0 0] 35)).drew).mono ?_; rintro e' w6 ⟨A6, c6, rfl, g6⟩; have b6 := (BZ.out.drew).trans (g6.bel.mono BZ.out.drew.size); have u0 := (KV.out.below b6).c0; have u1 := (KV.out.below b6).c1; have u2 := (KV.out.below b6).c2; have k6 := (KZ.out.below ((Below.refl _ _).drew)).below g6.bel; have CWb := Lib.hid (winXY A1 A6 c1 c6 2 w6 g6.rd.1 g6.rd.2.2.1 (fun e => (g6.rd.2.1 e).2) (RV.out.below b6) HC1.out (HT.out _ (BV.out.trans (b6.mono BV.out.size)))); rw [win2] at CWb; have B6 := Lib.hid b6; have K6 := Lib.hid k6; have L6 := Lib.hid k6.lt; have GE6 : Hid (W1.heap.size ≤ W1.heap.size) := Lib.hid (Nat.le_refl _); clear g6 b6 k6)
        | (go_simp; refine CWb.out.mono ?_; rintro e' w7 ⟨A7, n7, c7, rfl, g7, b7⟩; have k7 := K6.out.below b7; have q0 := k7.c0; have q1 := k7.c1; have q2 := k7.c2; have qz := k7.z; have FF := Lib.hid (vw_early (V := W1) (R := ⟨0, 1, 2, rXY, []⟩) (k := W1.heap.size) g7 (B6.out.trans (b7.mono B6.out.size)) k7 L6.out GE6.out); clear g7 b7 k7)
        | (go_simp; refine CWa.out.mono ?_; rintro e' w7 ⟨A7, n7, c7, rfl, g7, b7⟩; have FF := Lib.hid (vw_late (V := W1) (R := ⟨0, 1, 2, rXY, []⟩) g7 (B6.out.trans (b7.mono B6.out.size))); clear g7 b7)
        | (go_simp; refine CWc.out.mono ?_; rintro e' w7 ⟨A7, n7, c7, rfl, g7, b7⟩; have k7 := K6.out.below b7; have q0 := k7.c0; have q1 := k7.c1; have q2 := k7.c2; have qz := k7.z; have FF := Lib.hid (vw_early (V := W1) (R := ⟨0, 1, 2, rXY, []⟩) (k := w6.heap.size) g7 (B6X.out.trans (b7.mono B6X.out.size)) k7 L6.out GE6.out); clear g7 b7 k7))
      all_goals
        go_wp2
        go_meet
        exact ⟨rfl, _, rfl, FF.out⟩
    case rest =>
      obtain ⟨rfl, ky, rfl, hF⟩ := hcut
      obtain ⟨Ay, ny, cy, hky, hry, hby⟩ := hF.out
      have hny := hry.1
      have KY := Lib.hid hky
      have RY := Lib.hid hry
      have KV2 := Lib.hid (KV.out.below hby)
      have RV2 := Lib.hid (RV.out.below hby)
      have BV2 := Lib.hid (BV.out.trans (hby.mono BV.out.size))
      have KX2 := Lib.hid (KX.out.below hby)
      have RX2 := Lib.hid (RX.out.below hby)
      clear KV RV BV BZ KZ KX RX p0 p1 p2 z0 z1 z2 hF hky hry hby
      have KV := KV2
      have RV := RV2
      have BV := BV2
      have KX := KX2
      have RX := RX2
      clear KV2 RV2 BV2 KX2 RX2
      go_upto_region 4 with fail
      generalize wc = W2 at *
      have p0 := KV.out.c0
      have p1 := KV.out.c1
      have p2 := KV.out.c2
      have bz := (Below.refl W2.heap.size W2).alloc (Nat.le_refl _) (.cells #[.int .i64 0, .int .i64 0, .slice none 0 0] 35)
      have z0 := (KV.out.below bz).c0
      have z1 := (KV.out.below bz).c1
      have z2 := (KV.out.below bz).c2
      have BZ := Lib.hid bz
      have KZ := Lib.hid (Kg.new W2 0 0 none 0 0)
      clear bz
      go_cut [6, 7] (fun v2 v3 wx => v3 = .int .i64 2 ∧ ∃ k, v2 = .pointer (some ⟨k, 0, none⟩) ∧ Aside (Vw W2 wx k (bad 2)))
      case first =>
        go_region_law (first
          | (go_simp; refine (colXY W2.drew).mono ?_; rintro e' w6 ⟨A6, c6, rfl, g6⟩; have b6 := ((Below.refl W2.heap.size W2).drew).trans (g6.bel); have bx6 := (Below.refl w6.heap.size w6).alloc (Nat.le_refl _) (.cells #[.int .i64 0, .int .i64 0, .slice none 0 0] 35); have b6x := b6.trans (bx6.mono b6.size); have u0 := (KV.out.below b6).c0; have u1 := (KV.out.below b6).c1; have u2 := (KV.out.below b6).c2; have y0 := (KV.out.below b6x).c0; have y1 := (KV.out.below b6x).c1; have y2 := (KV.out.below b6x).c2; have CWa := Lib.hid (winXY A1 A6 c1 c6 3 w6 g6.rd.1 g6.rd.2.2.1 (fun e => (g6.rd.2.1 e).2) (RV.out.below b6) HC1.out (HT.out _ (BV.out.trans (b6.mono BV.out.size)))); have CWc := Lib.hid (winXY A1 A6 c1 c6 3 (w6.alloc (.cells #[.int .i64 0, .int .i64 0, .slice none 0 0] 35)) (g6.rd.1.alloc _) g6.rd.2.2.1 (fun e => (g6.rd.2.1 e).2) (RV.out.below b6x) HC1.out (HT.out _ (BV.out.trans (b6x.mono BV.out.size)))); rw [win3] at CWa CWc; have B6 := Lib.hid b6; have B6X := Lib.hid b6x; have K6 := Lib.hid (Kg.new w6 0 0 none 0 0); have L6 : Hid (w6.heap.size < (w6.alloc (.cells #[.int .i64 0, .int .i64 0, .slice none 0 0] 35)).heap.size) := Lib.hid (by simp); have GE6 := Lib.hid b6.size; clear g6 b6 b6x bx6)
          | (go_simp; refine (colXY (W2.alloc (.cells #[.int .i64 0, .int .i64 0, .slice none 0 0] 35)).drew).mono ?_; rintro e' w6 ⟨A6, c6, rfl, g6⟩; have b6 := (BZ.out.drew).trans (g6.bel.mono BZ.out.drew.size); have u0 := (KV.out.below b6).c0; have u1 := (KV.out.below b6).c1; have u2 := (KV.out.below b6).c2; have k6 := (KZ.out.below ((Below.refl _ _).drew)).below g6.bel; have CWb := Lib.hid (winXY A1 A6 c1 c6 3 w6 g6.rd.1 g6.rd.2.2.1 (fun e => (g6.rd.2.1 e).2) (RV.out.below b6) HC1.out (HT.out _ (BV.out.trans (b6.mono BV.out.size)))); rw [win3] at CWb; have B6 := Lib.hid b6; have K6 := Lib.hid k6; have L6 := Lib.hid k6.lt; have GE6 : Hid (W2.heap.size ≤ W2.heap.size) := Lib.hid (Nat.le_refl _); clear g6 b6 k6)
          | (go_simp; refine CWb.out.mono ?_; rintro e' w7 ⟨A7, n7, c7, rfl, g7, b7⟩; have k7 := K6.out.below b7; have q0 := k7.c0; have q1 := k7.c1; have q2 := k7.c2; have qz := k7.z; have FF := Lib.hid (vw_early (V := W2) (R := (bad 2)) (k := W2.heap.size) g7 (B6.out.trans (b7.mono B6.out.size)) k7 L6.out GE6.out); clear g7 b7 k7)
          | (go_simp; refine CWa.out.mono ?_; rintro e' w7 ⟨A7, n7, c7, rfl, g7, b7⟩; have FF := Lib.hid (vw_late (V := W2) (R := (bad 2)) g7 (B6.out.trans (b7.mono B6.out.size))); clear g7 b7)
          | (go_simp; refine CWc.out.mono ?_; rintro e' w7 ⟨A7, n7, c7, rfl, g7, b7⟩; have k7 := K6.out.below b7; have q0 := k7.c0; have q1 := k7.c1; have q2 := k7.c2; have qz := k7.z; have FF := Lib.hid (vw_early (V := W2) (R := (bad 2)) (k := w6.heap.size) g7 (B6X.out.trans (b7.mono B6X.out.size)) k7 L6.out GE6.out); clear g7 b7 k7))
        all_goals
          go_wp2
          go_meet
          exact ⟨rfl, _, rfl, FF.out⟩
      case rest =>
        obtain ⟨rfl, kz, rfl, hF⟩ := hcut
        obtain ⟨Az, nz, cz, hkz, hrz, hbz⟩ := hF.out
        have hnz := hrz.1
        have KZ := Lib.hid hkz
        have RZ := Lib.hid hrz
        have KV2 := Lib.hid (KV.out.below hbz)
        have RV2 := Lib.hid (RV.out.below hbz)
        have BV2 := Lib.hid (BV.out.trans (hbz.mono BV.out.size))
        have KX2 := Lib.hid (KX.out.below hbz)
        have RX2 := Lib.hid (RX.out.below hbz)
        have KY2 := Lib.hid (KY.out.below hbz)
        have RY2 := Lib.hid (RY.out.below hbz)
        clear KV RV BV BZ KZ KX RX KY RY p0 p1 p2 z0 z1 z2 hF hkz hrz hbz
        have KV := KV2
        have RV := RV2
        have BV := BV2
        have KX := KX2
        have RX := RX2
        have KY := KY2
        have RY := RY2
        clear KV2 RV2 BV2 KX2 RX2 KY2 RY2
        have hx2 : nx = 2 := hnx.symm
        have hy2 : ny = 2 := hny.symm
        subst hx2 hy2
        clear hnx hny hnz
        have key : ∀ U, Below wc.heap.size wc U → (U.cell? ⟨kx, 2, none⟩ = some (.slice Ax 2 cx) ∧ U.cell? ⟨ky, 2, none⟩ = some (.slice Ay 2 cy) ∧ Aside (Below wc.heap.size wc U)) := fun U h => ⟨(KX.out.below h).c2, (KY.out.below h).c2, h⟩
        have sB : ∀ {U U' : World}, Below U.heap.size U U' → (U.cell? ⟨kx, 2, none⟩ = some (.slice Ax 2 cx) ∧ U.cell? ⟨ky, 2, none⟩ = some (.slice Ay 2 cy) ∧ Aside (Below wc.heap.size wc U)) → (U'.cell? ⟨kx, 2, none⟩ = some (.slice Ax 2 cx) ∧ U'.cell? ⟨ky, 2, none⟩ = some (.slice Ay 2 cy) ∧ Aside (Below wc.heap.size wc U')) := fun {U U'} hb h => key _ (h.2.2.out.trans (hb.mono h.2.2.out.size))
        have hS := key wc.drew (Below.refl _ _).drew
        clear key
        go_wp2
        go_region_held3 (fun U => U.cell? ⟨kx, 2, none⟩ = some (.slice Ax 2 cx) ∧ U.cell? ⟨ky, 2, none⟩ = some (.slice Ay 2 cy) ∧ Aside (Below wc.heap.size wc U))
          (assumption)
          (first
            | (go_at_call 31; (with_reducible refine (colYA _).mono ?_); rintro e' w6 ⟨A6, c6, rfl, g6⟩; have hs6 := sB g6.bel (by assumption); have S6 := Lib.hid (sameRows_any Ax A6 2 2 cx c6 rYA rYA w6 (RX.out.below hs6.2.2.out) g6.rd.1 (by decide) (by decide) (sz1 (by decide)) (sz1 (by decide))); rw [decide_eq_true rfl] at S6; clear g6)
            | (go_at_call 15; (with_reducible refine S6.out.mono ?_); rintro e' w7 ⟨rfl, b7⟩; have hs7 := sB b7 (by assumption); clear b7 S6)
            | (go_at_call 31; (with_reducible refine (colXY _).mono ?_); rintro e' w8 ⟨A8, c8, rfl, g8⟩; have hs8 := sB g8.bel (by assumption); have S8 := Lib.hid (sameRows_any Ay A8 2 2 cy c8 rXY rXY w8 (RY.out.below hs8.2.2.out) g8.rd.1 (by decide) (by decide) (sz1 (by decide)) (sz1 (by decide))); rw [decide_eq_true rfl] at S8; clear g8)
            | (go_at_call 15; (with_reducible refine S8.out.mono ?_); rintro e' w9 ⟨rfl, b9⟩; have hs9 := sB b9 (by assumption); clear b9))
        have B11 := Lib.hid (BV.out.trans (hs9.2.2.out.mono BV.out.size))
        clear sB hS hs6 hs7 hs8 hs9
        go_wp2
        go_ret
        exact ⟨rfl, B11.out⟩

end Go.Proofs.YtgmgnlgolhjhmaaDoor
