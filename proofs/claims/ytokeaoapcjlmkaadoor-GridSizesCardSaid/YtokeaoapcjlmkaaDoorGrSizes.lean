/-
  The statement on sizes returns true.
-/
import Derived.Test.YtokeaoapcjlmkaaDoorGrSteps
namespace Go.Proofs.YtokeaoapcjlmkaaDoor
open Go.RowKit Go.Shelf Cr Gd

set_option maxHeartbeats 2000000 in
set_option maxRecDepth 100000 in
theorem sizes_walk (W H : Int) (A : Option Addr) (n c : Nat) (L : List (List C)) (x1 x2 x3 x4 : Int) (w : World) (hr : RdR w A n L) (hnc : n ≤ c) (hmax : n ≤ 9223372036854775807) (a1 : 0 ≤ x1) (b1 : x1 ≤ 255) (a2 : 0 ≤ x2) (b2 : x2 ≤ 255) (a3 : 0 ≤ x3) (b3 : x3 ≤ 255) (a4 : 0 ≤ x4) (b4 : x4 ≤ 255) (hT : Lib.Utf8Tabs 0 1 w) :
    Calls Tryd.prog 10 #[.agg #[.int .i64 W, .int .i64 H, .slice A n c], .int .u8 x1, .int .u8 x2, .int .u8 x3, .int .u8 x4] w fun e w' => e = .returned (.bool true) ∧ Below w.heap.size w w' := by
  obtain ⟨V, hV⟩ : ∃ V, w.alloc (.cells #[.int .i64 W, .int .i64 H, .slice A n c] 24) = V := ⟨_, rfl⟩
  have bV : Below w.heap.size w V := by rw [← hV]; exact (Below.refl _ _).alloc (Nat.le_refl _) _
  have k1 : Kg V w.heap.size W H A n c := by rw [← hV]; exact heap_alloc_new w _
  have K1 := Lib.hid k1
  have BV := Lib.hid bV
  have HR := Lib.hid (fun U (h : Below V.heap.size V U) => hr.below (bV.trans (h.mono bV.size)))
  have HT := Lib.hid (fun U (h : Below V.heap.size V U) => Utf8Tabs_below hT (bV.trans (h.mono bV.size)))
  have CR := Lib.hid (right_any W H A n c L V (hr.below bV) hmax)
  have CW := Lib.hid (fun U (hu : Below V.heap.size V U) => awake_true U (HT.out U hu))
  obtain ⟨y1, rfl⟩ : ∃ y1 : Nat, x1 = (y1 : Int) := ⟨x1.toNat, by omega⟩
  obtain ⟨y2, rfl⟩ : ∃ y2 : Nat, x2 = (y2 : Int) := ⟨x2.toNat, by omega⟩
  obtain ⟨y3, rfl⟩ : ∃ y3 : Nat, x3 = (y3 : Int) := ⟨x3.toNat, by omega⟩
  obtain ⟨y4, rfl⟩ : ∃ y4 : Nat, x4 = (y4 : Int) := ⟨x4.toNat, by omega⟩
  clear hr hT k1 bV
  by_cases hq : greatR L = true ∨ gE W H L ≠ 0
  · rw [if_pos hq] at CR
    clear hq
    subst hV
    go_enter Tryd.func10, Tryd.ntmps10
    go_wp2_with fail
    refine CR.out.mono ?_
    rintro e w1 ⟨rfl, b1⟩
    have CW1 := Lib.hid (CW.out w1 b1)
    have B1 := Lib.hid (BV.out.trans (b1.mono BV.out.size))
    clear b1
    go_wp2_with fail
    refine CW1.out.mono ?_
    rintro e w2 ⟨rfl, b2⟩
    have B2 := Lib.hid (B1.out.trans (b2.mono B1.out.size))
    clear b2
    go_wp2
    go_ret
    exact ⟨rfl, B2.out⟩
  · rw [if_neg hq] at CR
    obtain ⟨hgr, hgE⟩ := right_ok hq
    obtain ⟨hl10, hsm, hlen⟩ := greatR_false hgr
    obtain ⟨v, h, rfl, rfl, hgood⟩ := gE_good hgE
    have hLh : L.length = h := hgood.2.2.2.2.1
    have hnh : n = h := by have := (HR.out V (Below.refl _ _)).1; omega
    subst hnh
    have hh1 : 1 ≤ n := hgood.2.2.1
    have hn10 : n ≤ 10 := by omega
    have hv1 : 1 ≤ v := hgood.1
    by_cases h20 : 20 < v
    · have h20z : (20 : Int) < (v : Int) := by omega
      clear hq hgr hgE hl10 hsm hlen hgood hLh
      subst hV
      go_enter Tryd.func10, Tryd.ntmps10
      go_wp2_with fail
      refine CR.out.mono ?_
      rintro e w1 ⟨rfl, b1⟩
      have CW1 := Lib.hid (CW.out w1 b1)
      have B1 := Lib.hid (BV.out.trans (b1.mono BV.out.size))
      have p0 := (K1.out.below b1).c0
      clear b1
      go_wp2_with fail
      refine CW1.out.mono ?_
      rintro e w2 ⟨rfl, b2⟩
      have B2 := Lib.hid (B1.out.trans (b2.mono B1.out.size))
      clear b2
      go_wp2
      go_ret
      exact ⟨rfl, B2.out⟩
    · have h20z : ¬ (20 : Int) < (v : Int) := by omega
      -- the numbers
      obtain ⟨r1, hr1⟩ : ∃ r1, y1 % 4 = r1 := ⟨_, rfl⟩
      obtain ⟨r2, hr2⟩ : ∃ r2, y2 % 4 = r2 := ⟨_, rfl⟩
      obtain ⟨v1, hv1'⟩ : ∃ v1, v + r1 = v1 := ⟨_, rfl⟩
      obtain ⟨n1, hn1'⟩ : ∃ n1, n + r2 = n1 := ⟨_, rfl⟩
      obtain ⟨r3, hr3⟩ : ∃ r3, y3 % v = r3 := ⟨_, rfl⟩
      obtain ⟨r4, hr4⟩ : ∃ r4, y4 % n = r4 := ⟨_, rfl⟩
      have hr3v : r3 < v := by rw [← hr3]; exact Nat.mod_lt _ (by omega)
      have hr4n : r4 < n := by rw [← hr4]; exact Nat.mod_lt _ (by omega)
      obtain ⟨a, ha⟩ : ∃ a, 1 + r3 = a := ⟨_, rfl⟩
      obtain ⟨b, hb⟩ : ∃ b, 1 + r4 = b := ⟨_, rfl⟩
      obtain ⟨va, hva⟩ : ∃ va, v + a = va := ⟨_, rfl⟩
      obtain ⟨nb, hnb⟩ : ∃ nb, n + b = nb := ⟨_, rfl⟩
      obtain ⟨mw, hmw⟩ : ∃ mw, va / 2 = mw := ⟨_, rfl⟩
      obtain ⟨mh, hmh⟩ : ∃ mh, nb / 2 = mh := ⟨_, rfl⟩
      have i1 : (y1 : Int).tmod 4 = (r1 : Int) := by rw [← hr1]; exact (Int.ofNat_tmod y1 4).symm
      have i2 : (y2 : Int).tmod 4 = (r2 : Int) := by rw [← hr2]; exact (Int.ofNat_tmod y2 4).symm
      have i3 : (v : Int) + (r1 : Int) = (v1 : Int) := by omega
      have i4 : (n : Int) + (r2 : Int) = (n1 : Int) := by omega
      have i5 : (y3 : Int).tmod (v : Int) = (r3 : Int) := by rw [← hr3]; exact (Int.ofNat_tmod y3 v).symm
      have i6 : (y4 : Int).tmod (n : Int) = (r4 : Int) := by rw [← hr4]; exact (Int.ofNat_tmod y4 n).symm
      have i9 : (v : Int) + (a : Int) = (va : Int) := by omega
      have i10 : (n : Int) + (b : Int) = (nb : Int) := by omega
      have i11 : (va : Int).tdiv 2 = (mw : Int) := by rw [← hmw]; exact (Int.ofNat_tdiv va 2).symm
      have i12 : (nb : Int).tdiv 2 = (mh : Int) := by rw [← hmh]; exact (Int.ofNat_tdiv nb 2).symm
      have w1 : IntKind.i64.wrap (y3 : Int) = (y3 : Int) := by rw [IntKind.wrap_i64]; omega
      have w2 : IntKind.i64.wrap (y4 : Int) = (y4 : Int) := by rw [IntKind.wrap_i64]; omega
      have w3 : IntKind.i64.wrap (1 + (r3 : Int)) = (a : Int) := by rw [IntKind.wrap_i64]; omega
      have w4 : IntKind.i64.wrap (1 + (r4 : Int)) = (b : Int) := by rw [IntKind.wrap_i64]; omega
      have w5 : IntKind.i64.wrap (r3 : Int) = (r3 : Int) := by rw [IntKind.wrap_i64]; omega
      have w6 : IntKind.i64.wrap (r4 : Int) = (r4 : Int) := by rw [IntKind.wrap_i64]; omega
      have z1 : ¬ (v : Int) = 0 := by omega
      have z2 : ¬ (n : Int) = 0 := by omega
      have z3 : ((v : Int) == 0) = false := by simpa using z1
      have z4 : ((n : Int) == 0) = false := by simpa using z2
      have z5 : ¬ (v : Int) = -1 := by omega
      have z6 : ¬ (n : Int) = -1 := by omega
      have hvz : (v : Int) ≤ 20 := by omega
      have hnz : (n : Int) ≤ 10 := by omega
      have hr1z : (r1 : Int) ≤ 3 := by omega
      have hr2z : (r2 : Int) ≤ 3 := by omega
      have hv1z : (v1 : Int) ≤ 23 := by omega
      have hn1z : (n1 : Int) ≤ 13 := by omega
      have haz : (a : Int) ≤ 20 := by omega
      have hbz : (b : Int) ≤ 10 := by omega
      have hmwz : (mw : Int) ≤ 20 := by omega
      have hmhz : (mh : Int) ≤ 10 := by omega
      have hvaz : (va : Int) ≤ 40 := by omega
      have hnbz : (nb : Int) ≤ 20 := by omega
      -- the grids
      have hg1 := hgood.rsz (v := v1) (k := n1) (by omega) (by omega) (by omega) (by omega)
      have hg3 := hgood.rsz (v := mw) (k := mh) (by omega) (by omega) (by omega) (by omega)
      have hg5 := hgood.rsz (v := a) (k := b) (by omega) (by omega) (by omega) (by omega)
      have E1 := resizeR_good hgood (v := v1) (k := n1) (by omega) (by omega) (by omega) (by omega)
      have E2 := resizeR_good hg1 (v := v) (k := n) (by omega) (by omega) (by omega) (by omega)
      have E3 := resizeR_good hgood (v := mw) (k := mh) (by omega) (by omega) (by omega) (by omega)
      have E4 := resizeR_good hg3 (v := a) (k := b) (by omega) (by omega) (by omega) (by omega)
      have E5 := resizeR_good hgood (v := a) (k := b) (by omega) (by omega) (by omega) (by omega)
      rw [rsz_back hgood (by omega) (by omega)] at E2
      rw [rsz_steps hgood (by omega) (by omega) (by omega)] at E4
      have hs1 := hsm.rsz v1 n1
      have hs3 := hsm.rsz mw mh
      have hz := Good.sz hgood
      have hz5 := Good.sz hg5
      have hl1 : (rsz L v1 n1).length = n1 := hg1.2.2.2.2.1
      have hl3 : (rsz L mw mh).length = mh := hg3.2.2.2.2.1
      have hl5 : (rsz L a b).length = b := hg5.2.2.2.2.1
      have C1 := Lib.hid (fun U (hu : Below V.heap.size V U) => gresize_any (v : Int) (n : Int) A n c L (v1 : Int) (n1 : Int) U (HR.out U hu) hnc hmax hsm (HT.out U hu))
      rw [E1] at C1
      have C2 := Lib.hid (fun (A3 : Option Addr) (n3 c3 : Nat) U (hu : Below V.heap.size V U) (hr3 : RdR U A3 n3 (rsz L v1 n1)) (hc3 : n3 ≤ c3) (hn3 : n3 ≤ 9223372036854775807) => gresize_any (v1 : Int) (n1 : Int) A3 n3 c3 (rsz L v1 n1) (v : Int) (n : Int) U hr3 hc3 hn3 hs1 (HT.out U hu))
      rw [E2] at C2
      have C3 := Lib.hid (fun U (hu : Below V.heap.size V U) => gresize_any (v : Int) (n : Int) A n c L (mw : Int) (mh : Int) U (HR.out U hu) hnc hmax hsm (HT.out U hu))
      rw [E3] at C3
      have C4 := Lib.hid (fun (A3 : Option Addr) (n3 c3 : Nat) U (hu : Below V.heap.size V U) (hr3 : RdR U A3 n3 (rsz L mw mh)) (hc3 : n3 ≤ c3) (hn3 : n3 ≤ 9223372036854775807) => gresize_any (mw : Int) (mh : Int) A3 n3 c3 (rsz L mw mh) (a : Int) (b : Int) U hr3 hc3 hn3 hs3 (HT.out U hu))
      rw [E4] at C4
      have C5 := Lib.hid (fun U (hu : Below V.heap.size V U) => gresize_any (v : Int) (n : Int) A n c L (a : Int) (b : Int) U (HR.out U hu) hnc hmax hsm (HT.out U hu))
      rw [E5] at C5
      generalize rsz L v1 n1 = L1 at *
      generalize rsz L mw mh = L3 at *
      generalize rsz L a b = L5 at *
      have HL1 := Lib.hid hl1
      have HL3 := Lib.hid hl3
      have HL5 := Lib.hid hl5
      have HLN := Lib.hid hLh
      have HZ := Lib.hid hz
      have HZ5 := Lib.hid hz5
      have hb60 : b ≤ 1000 := by omega
      have hn1000 : n ≤ 1000 := by omega
      have hn1b : n1 ≤ 9223372036854775807 := by omega
      have hmhb : mh ≤ 9223372036854775807 := by omega
      clear hq hgr hgE hl10 hsm hlen hgood hg1 hg3 hg5 E1 E2 E3 E4 E5 hs1 hs3 hz hz5 hl1 hl3 hl5 hr1 hr2 hv1' hn1' hr3 hr4 ha hb hva hnb hmw hmh hLh
      subst hV
      go_enter Tryd.func10, Tryd.ntmps10
      go_wp2_with fail
      refine CR.out.mono ?_
      rintro e' u1 ⟨rfl, d1⟩
      have D1 := Lib.hid d1
      have p0 := (K1.out.below d1).c0
      have p1 := (K1.out.below d1).c1
      have p2 := (K1.out.below d1).c2
      have Ca := Lib.hid (C1.out u1 d1)
      clear d1 CR C1
      go_wp2_with fail
      refine Ca.out.mono ?_
      rintro e' u2 ⟨A2, n2, c2, rfl, g2, b2'⟩
      have hn2 : n1 = n2 := HL1.out.symm.trans g2.1.1
      subst hn2
      have bx := (Below.refl u2.heap.size u2).alloc (Nat.le_refl _) (.cells #[.int .i64 (v1 : Int), .int .i64 (n1 : Int), .slice A2 n1 c2] 24)
      have d2 := D1.out.trans ((b2'.trans (bx.mono b2'.size)).mono D1.out.size)
      have D2 := Lib.hid d2
      have G2 := Lib.hid (g2.below bx)
      have Cb := Lib.hid (C2.out A2 n1 c2 _ d2 G2.out.1 G2.out.2.1.2 hn1b)
      clear g2 b2' bx p0 p1 p2 C2 Ca
      have p0 := (K1.out.below d2).c0
      have p1 := (K1.out.below d2).c1
      clear d2
      go_wp2_with fail
      refine Cb.out.mono ?_
      rintro e' u3 ⟨A3, n3, c3, rfl, g3, b3'⟩
      have hn3 : n = n3 := HLN.out.symm.trans g3.1.1
      subst hn3
      have bx := (Below.refl u3.heap.size u3).alloc (Nat.le_refl _) (.cells #[.int .i64 (v : Int), .int .i64 (n : Int), .slice A3 n c3] 24)
      have d3 := D2.out.trans ((b3'.trans (bx.mono b3'.size)).mono D2.out.size)
      have D3 := Lib.hid d3
      have G3 := Lib.hid (g3.below bx)
      have Cm := Lib.hid (same_g (v : Int) (n : Int) A3 A n n c3 c L _ G3.out.1 (HR.out _ d3) hn1000 HZ.out)
      clear g3 b3' bx p0 p1 Cb G2
      have p0 := (K1.out.below d3).c0
      have p1 := (K1.out.below d3).c1
      have p2 := (K1.out.below d3).c2
      clear d3
      go_wp2_with fail
      refine Cm.out.mono ?_
      rintro e' u4 ⟨rfl, d4⟩
      have D4 := Lib.hid (D3.out.trans (d4.mono D3.out.size))
      clear d4 Cm p0 p1 p2 G3
      have p0 := (K1.out.below D4.out.drew).c0
      have p1 := (K1.out.below D4.out.drew).c1
      have p2 := (K1.out.below D4.out.drew).c2
      have Cc := Lib.hid (C3.out u4.drew D4.out.drew)
      go_wp2
      go_region
      go_wp2_with fail
      refine Cc.out.mono ?_
      rintro e' u5 ⟨A5, n5, c5, rfl, g5, b5'⟩
      have hn5 : mh = n5 := HL3.out.symm.trans g5.1.1
      subst hn5
      have bx := (Below.refl u5.heap.size u5).alloc (Nat.le_refl _) (.cells #[.int .i64 (mw : Int), .int .i64 (mh : Int), .slice A5 mh c5] 24)
      have d5 := D4.out.drew.trans ((b5'.trans (bx.mono b5'.size)).mono D4.out.drew.size)
      have D5 := Lib.hid d5
      have G5 := Lib.hid (g5.below bx)
      have Cd := Lib.hid (C4.out A5 mh c5 _ d5 G5.out.1 G5.out.2.1.2 hmhb)
      clear g5 b5' bx p0 p1 p2 C3 C4 Cc d5
      go_wp2_with fail
      refine Cd.out.mono ?_
      rintro e' u6 ⟨A6, n6, c6, rfl, g6, b6'⟩
      have hn6 : b = n6 := HL5.out.symm.trans g6.1.1
      subst hn6
      have bx := (Below.refl u6.heap.size u6).alloc (Nat.le_refl _) (.cells #[.int .i64 (a : Int), .int .i64 (b : Int), .slice A6 b c6] 24)
      have d6 := D5.out.trans ((b6'.trans (bx.mono b6'.size)).mono D5.out.size)
      have D6 := Lib.hid d6
      have K6 := Lib.hid (Kg.new u6 (a : Int) (b : Int) A6 b c6)
      have G6 := Lib.hid (g6.below bx)
      have Ce := Lib.hid (C5.out _ d6)
      clear g6 b6' bx Cd C5
      have p0 := (K1.out.below d6).c0
      have p1 := (K1.out.below d6).c1
      have p2 := (K1.out.below d6).c2
      clear d6
      go_wp2_with fail
      refine Ce.out.mono ?_
      rintro e' u7 ⟨A7, n7, c7, rfl, g7, b7'⟩
      have hn7 : b = n7 := HL5.out.symm.trans g7.1.1
      subst hn7
      have bx := (Below.refl u7.heap.size u7).alloc (Nat.le_refl _) (.cells #[.int .i64 (a : Int), .int .i64 (b : Int), .slice A7 b c7] 24)
      have s7 := b7'.trans (bx.mono b7'.size)
      have D7 := Lib.hid (D6.out.trans (s7.mono D6.out.size))
      have Cf := Lib.hid (same_g (a : Int) (b : Int) A6 A7 b b c6 c7 L5 _ (G6.out.below s7).1 (g7.below bx).1 hb60 HZ5.out)
      have q0 := (K6.out.below s7).c0
      have q1 := (K6.out.below s7).c1
      have q2 := (K6.out.below s7).c2
      clear g7 b7' bx s7 p0 p1 p2 Ce
      go_wp2_with fail
      refine Cf.out.mono ?_
      rintro e' u8 ⟨rfl, d8⟩
      have D8 := Lib.hid (D7.out.trans (d8.mono D7.out.size))
      have CW8 := Lib.hid (CW.out u8 D8.out)
      clear d8 q0 q1 q2 Cf
      go_wp2_with fail
      refine CW8.out.mono ?_
      rintro e' u9 ⟨rfl, d9⟩
      have D9 := Lib.hid (BV.out.trans ((D8.out.trans (d9.mono D8.out.size)).mono BV.out.size))
      clear d9
      go_wp2
      go_ret
      exact ⟨rfl, D9.out⟩

end Go.Proofs.YtokeaoapcjlmkaaDoor
