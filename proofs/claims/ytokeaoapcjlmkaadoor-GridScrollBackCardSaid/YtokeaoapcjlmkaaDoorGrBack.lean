/-
  The statement on scrolling up and back returns true.
-/
import Derived.Test.YtokeaoapcjlmkaaDoorGrSteps
import Derived.Test.YtokeaoapcjlmkaaDoorGrSet
namespace Go.Proofs.YtokeaoapcjlmkaaDoor
open Go.RowKit Go.Shelf Cr Gd

set_option maxHeartbeats 4000000 in
set_option maxRecDepth 100000 in
theorem back_walk (W H : Int) (A : Option Addr) (n c : Nat) (L : List (List C)) (x1 x2 x3 : Int) (f b g : Int) (w : World) (hr : RdR w A n L) (hnc : n ≤ c) (hmax : n ≤ 9223372036854775807) (a1 : 0 ≤ x1) (b1 : x1 ≤ 255) (a2 : 0 ≤ x2) (b2 : x2 ≤ 255) (a3 : 0 ≤ x3) (b3 : x3 ≤ 255) (hT : Lib.Utf8Tabs 0 1 w) :
    Calls Tryd.prog 9 #[.agg #[.int .i64 W, .int .i64 H, .slice A n c], .int .u8 x1, .int .u8 x2, .int .u8 x3, .agg #[.int .i64 f, .int .i64 b, .int .i64 g]] w fun e w' => e = .returned (.bool true) ∧ Below w.heap.size w w' := by
  obtain ⟨V, hV⟩ : ∃ V, (w.alloc (.cells #[.int .i64 W, .int .i64 H, .slice A n c] 24)).alloc (.cells #[.int .i64 f, .int .i64 b, .int .i64 g] 34) = V := ⟨_, rfl⟩
  obtain ⟨k1, kA, bV⟩ := ga_in w W H A n c f b g
  rw [hV] at k1 kA bV
  have K1 := Lib.hid k1
  have KA : Hid (Ka V (w.heap.size + 1) f b g) := Lib.hid kA
  have BV := Lib.hid bV
  have HR := Lib.hid (fun U (h : Below V.heap.size V U) => hr.below (bV.trans (h.mono bV.size)))
  have HT := Lib.hid (fun U (h : Below V.heap.size V U) => Utf8Tabs_below hT (bV.trans (h.mono bV.size)))
  have HR0 := Lib.hid (fun U (h : Below w.heap.size w U) => hr.below h)
  have HT0 := Lib.hid (fun U (h : Below w.heap.size w U) => Utf8Tabs_below hT h)
  have CR := Lib.hid (right_any W H A n c L V (hr.below bV) hmax)
  have CW := Lib.hid (fun U (hu : Below V.heap.size V U) => awake_true U (HT.out U hu))
  obtain ⟨y1, rfl⟩ : ∃ y1 : Nat, x1 = (y1 : Int) := ⟨x1.toNat, by omega⟩
  obtain ⟨y2, rfl⟩ : ∃ y2 : Nat, x2 = (y2 : Int) := ⟨x2.toNat, by omega⟩
  obtain ⟨y3, rfl⟩ : ∃ y3 : Nat, x3 = (y3 : Int) := ⟨x3.toNat, by omega⟩
  clear hr hT k1 kA bV
  by_cases hq : greatR L = true ∨ gE W H L ≠ 0
  · rw [if_pos hq] at CR
    clear hq
    subst hV
    go_enter Tryd.func9, Tryd.ntmps9
    go_wp2_with fail
    refine CR.out.mono ?_
    rintro e w1 ⟨rfl, b1⟩
    have CW1 := Lib.hid (CW.out w1 b1)
    have B1 := Lib.hid (BV.out.trans (b1.mono BV.out.size))
    clear b1
    go_wp2_with fail
    refine CW1.out.mono ?_
    rintro e w2 ⟨rfl, b2⟩
    have B2 := Lib.hid (B1.out.trans (b2.mono B1.out.size))
    clear b2
    go_wp2
    go_ret
    exact ⟨rfl, B2.out⟩
  · rw [if_neg hq] at CR
    obtain ⟨hgr, hgE⟩ := right_ok hq
    obtain ⟨hl10, hsm, hlen⟩ := greatR_false hgr
    obtain ⟨v, h, rfl, rfl, hgood⟩ := gE_good hgE
    have hLh : L.length = h := hgood.2.2.2.2.1
    have hnh : n = h := by have := (HR.out V (Below.refl _ _)).1; omega
    subst hnh
    have hh1 : 1 ≤ n := hgood.2.2.1
    have hh60 : n ≤ 60 := hgood.2.2.2.1
    -- the numbers
    obtain ⟨t, ht⟩ : ∃ t, y1 % n = t := ⟨_, rfl⟩
    obtain ⟨s, hs⟩ : ∃ s, n - t = s := ⟨_, rfl⟩
    obtain ⟨q, hq'⟩ : ∃ q, y2 % s = q := ⟨_, rfl⟩
    obtain ⟨e, he⟩ : ∃ e, t + 1 + q = e := ⟨_, rfl⟩
    have hth : t < n := by rw [← ht]; exact Nat.mod_lt _ (by omega)
    have hqs : q < s := by rw [← hq']; exact Nat.mod_lt _ (by omega)
    have hte : t < e := by omega
    have hen : e ≤ n := by omega
    have CP := Lib.hid (fun U => part_any (v : Int) n A n c y1 y2 t s q e (by omega) (by omega) hh1 hh60 ht hs hq' he U)
    obtain ⟨r, hrr⟩ : ∃ r, e - t = r := ⟨_, rfl⟩
    obtain ⟨r1, hr1⟩ : ∃ r1, r + 1 = r1 := ⟨_, rfl⟩
    obtain ⟨m, hm⟩ : ∃ m, y3 % r1 = m := ⟨_, rfl⟩
    have hmr : m < r1 := by rw [← hm]; exact Nat.mod_lt _ (by omega)
    have i1 : (e : Int) - (t : Int) = (r : Int) := by omega
    have i2 : (r : Int) + 1 = (r1 : Int) := by omega
    have i3 : (y3 : Int).tmod (r1 : Int) = (m : Int) := by rw [← hm]; exact (Int.ofNat_tmod y3 r1).symm
    have z1 : ¬ (r1 : Int) = 0 := by omega
    have z3 : ((r1 : Int) == 0) = false := by simpa using z1
    have hr60 : r ≤ 60 := by omega
    -- the grids
    have hgood1 := hgood.scr (t := t) (b := e) (u := m) (d := 0) b hte hen (by omega)
    have hgood2 := hgood1.scr (t := t) (b := e) (u := 0) (d := m) b hte hen (by omega)
    have E1 := scrollR_up hgood hte hen (m := m) (by omega) b
    have E2 := scrollR_down hgood1 hte hen (m := m) (by omega) b
    have hsm1 := hsm.scr t e m 0 v b
    have hsm2 := hsm1.scr t e 0 m v b
    have hz := Good.sz hgood
    have hl1 : (scr L t e m 0 (blanks v b)).length = n := hgood1.2.2.2.2.1
    have hl2 : (scr (scr L t e m 0 (blanks v b)) t e 0 m (blanks v b)).length = n := hgood2.2.2.2.2.1
    have htk1 := scr_take (L := L) (t := t) (b := e) (u := m) (d := 0) (blanks v b) hte (by omega)
    have htk2 := scr_take (L := scr L t e m 0 (blanks v b)) (t := t) (b := e) (u := 0) (d := m) (blanks v b) hte (by omega)
    have hbk := scr_back (L := L) (t := t) (b := e) (n := m) (blanks v b) hte (by omega) (by omega)
    have ho1 := out_length (L := L) (t := t) (b := e) (u := m) hte (by omega) (by omega)
    have hog : ∀ i l, (out L t m)[i]? = some l → L[t + i]? = some l ∧ i < m := fun i l hl => by
      rw [out_get] at hl
      split at hl
      · rename_i hi; exact ⟨hl, hi⟩
      · cases hl
    have CS := Lib.hid (fun U (hu : Below V.heap.size V U) => gscroll_any (v : Int) (n : Int) A n c L (t : Int) (e : Int) (m : Int) f b g U (HR.out U hu) hnc hmax hsm (HT.out U hu))
    rw [E1] at CS
    have CS2 := Lib.hid (fun (A3 : Option Addr) (n3 c3 : Nat) U (hu : Below V.heap.size V U) (hr3 : RdR U A3 n3 (scr L t e m 0 (blanks v b))) (hc3 : n3 ≤ c3) (hn3 : n3 ≤ 9223372036854775807) => gscroll_any (v : Int) (n : Int) A3 n3 c3 (scr L t e m 0 (blanks v b)) (t : Int) (e : Int) (-(m : Int)) f b g U hr3 hc3 hn3 hsm1 (HT.out U hu))
    rw [E2] at CS2
    rw [htk1] at htk2
    generalize scr (scr L t e m 0 (blanks v b)) t e 0 m (blanks v b) = Y at *
    generalize scr L t e m 0 (blanks v b) = L1 at *
    generalize out L t m = M1 at *
    -- the grid behind j settings
    have hst : L.take (t + 0) ++ Y.drop (t + 0) = Y := by rw [Nat.add_zero, ← htk2, List.take_append_drop]
    have hfi : L.take (t + m) ++ Y.drop (t + m) = L := by rw [hbk, List.take_append_drop]
    have hgj : ∀ j, j ≤ m → Gd.Good v n (L.take (t + j) ++ Y.drop (t + j)) := fun j hj => by
      refine ⟨hgood.1, hgood.2.1, hgood.2.2.1, hgood.2.2.2.1, ?_, fun l hl => ?_⟩
      · rw [List.length_append, List.length_take, List.length_drop]; omega
      · rcases List.mem_append.1 hl with hl | hl
        · exact hgood.2.2.2.2.2 l (List.mem_of_mem_take hl)
        · exact hgood2.2.2.2.2.2 l (List.mem_of_mem_drop hl)
    have hsj : ∀ j, SmR (L.take (t + j) ++ Y.drop (t + j)) := fun j => (hsm.take _).app (hsm2.drop _)
    have CT := Lib.hid (fun (A3 : Option Addr) (n3 c3 : Nat) (j : Nat) (l : List C) (B : Option Addr) (mm d : Nat) U (hu : Below w.heap.size w U) (hjm : j < m) (hl : L[t + j]? = some l) (hr3 : RdR U A3 n3 (L.take (t + j) ++ Y.drop (t + j))) (hn3 : n3 ≤ 9223372036854775807) (hrl : Rd U B mm l) (hmd : mm ≤ d) (hm63 : mm ≤ 9223372036854775807) => by
      have hk := gset_any (v : Int) (n : Int) A3 n3 c3 (L.take (t + j) ++ Y.drop (t + j)) ((t + j : Nat) : Int) B mm d l U hr3 hn3 (hsj j) hrl hmd hm63 (hsm l (List.mem_of_getElem? hl)) (HT0.out U hu)
      rw [setR_good (hgj j (by omega)) (by omega) (hgood.row hl).1 (hgood.row hl).2, set_join hl (by omega)] at hk
      exact hk)
    have HST := Lib.hid hst
    have HFI := Lib.hid hfi
    have HL1 := Lib.hid hl1
    have HL2 := Lib.hid hl2
    have HO1 := Lib.hid ho1
    have HOG := Lib.hid hog
    have HZ := Lib.hid hz
    have HLN := Lib.hid hLh
    have hgjl : ∀ j, j ≤ m → (L.take (t + j) ++ Y.drop (t + j)).length = n := fun j hj => (hgj j hj).2.2.2.2.1
    have HGJ := Lib.hid hgjl
    have hnn : ((n : Int) == (n : Int)) = true := beq_self_eq_true _
    clear hq hgr hgE hl10 hsm hlen hgood hgood1 hgood2 E1 E2 hsm1 hsm2 hz hl1 hl2 htk1 htk2 hbk ho1 hog hst hfi hgj hsj hgjl ht hs hq' he hrr hr1 hm hLh
    subst hV
    go_enter Tryd.func9, Tryd.ntmps9
    go_wp2_with fail
    refine CR.out.mono ?_
    rintro e' w1 ⟨rfl, d1⟩
    have D1 := Lib.hid d1
    have p0 := (K1.out.below d1).c0
    have p1 := (K1.out.below d1).c1
    have p2 := (K1.out.below d1).c2
    clear d1 CR
    go_wp2_with fail
    refine (CP.out w1).mono ?_
    rintro e' w2 ⟨rfl, d2⟩
    have D2 := Lib.hid (D1.out.trans (d2.mono D1.out.size))
    clear d2 CP p0 p1 p2
    have p0 := (K1.out.below D2.out).c0
    have p1 := (K1.out.below D2.out).c1
    have p2 := (K1.out.below D2.out).c2
    have a0 := (KA.out.below D2.out).c0
    have a1 := (KA.out.below D2.out).c1
    have a2 := (KA.out.below D2.out).c2
    have CSa := Lib.hid (CS.out w2 D2.out)
    clear CS
    go_wp2_with fail
    refine CSa.out.mono ?_
    rintro e' w3 ⟨A3, n3, c3, B3, m3, e3, rfl, g3, g3', b3'⟩
    have hn3 : n = n3 := HL1.out.symm.trans g3.1.1
    have hm3 : m = m3 := HO1.out.symm.trans g3'.1.1
    subst hn3 hm3
    have bx := (Below.refl w3.heap.size w3).alloc (Nat.le_refl _) (.cells #[.int .i64 (v : Int), .int .i64 (n : Int), .slice A3 n c3] 24)
    have d3 := D2.out.trans ((b3'.trans (bx.mono b3'.size)).mono D2.out.size)
    have D3 := Lib.hid d3
    have K3 := Lib.hid (Kg.new w3 (v : Int) (n : Int) A3 n c3)
    have G3 := Lib.hid (g3.below bx)
    have M3' := Lib.hid (g3'.below bx)
    have H3 := Lib.hid g3'.1
    have CSb := Lib.hid (CS2.out A3 n c3 _ d3 G3.out.1 G3.out.2.1.2 hmax)
    clear g3 g3' b3' bx p0 p1 p2 a0 a1 a2 CS2 CSa
    have a0 := (KA.out.below d3).c0
    have a1 := (KA.out.below d3).c1
    have a2 := (KA.out.below d3).c2
    clear d3
    go_wp2_with fail
    refine CSb.out.mono ?_
    rintro e' w4 ⟨A4, n4, c4, B4, m4, e4, rfl, g4, g4', b4'⟩
    have hn4 : n = n4 := HL2.out.symm.trans g4.1.1
    have hm4 : 0 = m4 := g4'.1.1
    subst hn4 hm4
    have K4 := Lib.hid (K3.out.below b4')
    have q0 := K4.out.c0
    have q1 := K4.out.c1
    have q2 := K4.out.c2
    have qf := K4.out.z
    -- the rows that were moved out do not lie in the block of x
    have hB3 : ∀ p, B3 = some p → 0 < m → p.block ≠ w3.heap.size := fun p hp h0 => by
      obtain ⟨bb, oo, xx, ee, hlt, _⟩ := H3.out.2 0 (M1[0]'(by rw [HO1.out]; exact h0)) (List.getElem?_eq_getElem _)
      rw [ee] at hp
      injection hp with hp
      rw [← hp]
      exact Nat.ne_of_lt hlt
    have hin : RdR (g3 w4 w3.heap.size (v : Int) (n : Int) (.slice A4 n c4)) B3 m M1 := by
      have h4 := M3'.out.1.below b4'
      refine ⟨h4.1, fun j l hj => ?_⟩
      have h0 : 0 < m := by rw [← h4.1]; exact Nat.lt_of_le_of_lt (Nat.zero_le _) (List.getElem?_eq_some_iff.1 hj).1
      exact (h4.g3 K4.out (fun p e => hB3 p e h0) _ _ _).2 j l hj
    have hlt3 : w3.heap.size < w4.heap.size := K4.out.lt
    have G4 : Hid (Gv (w3.alloc (.cells #[.int .i64 (v : Int), .int .i64 (n : Int), .slice A3 n c3] 24)) (g3 w4 w3.heap.size (v : Int) (n : Int) (.slice A4 n c4)) A4 n c4 Y) := Lib.hid (g4.g3 K4.out (by simp) _ _ _)
    have BW := BV.out.trans ((D3.out.trans (b4'.mono D3.out.size)).mono BV.out.size)
    have hww3 : w.heap.size < w3.heap.size := by
      have h := (Array.getElem?_eq_some_iff.1 (KA.out.below D3.out)).1
      simp at h
      omega
    have B5 : Hid (Below w.heap.size w (g3 w4 w3.heap.size (v : Int) (n : Int) (.slice A4 n c4))) := Lib.hid (below_g3 BW (by omega) _ _ _)
    have KG5 : Hid (Kg (g3 w4 w3.heap.size (v : Int) (n : Int) (.slice A4 n c4)) w.heap.size (v : Int) (n : Int) A n c) := Lib.hid ((g3_other w4 _ _ _ _ _ (by omega)).trans (K1.out.below (D3.out.trans (b4'.mono D3.out.size))))
    have KX5 : Hid (Kg (g3 w4 w3.heap.size (v : Int) (n : Int) (.slice A4 n c4)) w3.heap.size (v : Int) (n : Int) A4 n c4) := Lib.hid (K4.out.put _ _ _ _ _)
    have HB3 := Lib.hid hB3
    have HIN := Lib.hid hin
    have HWW := Lib.hid hww3
    have hmm : ((m : Int) != (m : Int)) = false := by simp
    have hmz : (m : Int) ≤ 60 := by omega
    have htz : (t : Int) ≤ 60 := by omega
    have hA4 : ∀ p, A4 = some p → p.block ≠ w3.heap.size := fun p e => by
      have h := G4.out.2.2 p e
      simp at h
      omega
    have HA4 := Lib.hid hA4
    clear g4 g4' b4' hB3 hin hlt3 BW hww3 CSb a0 a1 a2 hA4
    go_wp2
    have hbase : (g3 w4 w3.heap.size (v : Int) (n : Int) (.slice A4 n c4)) = ((w4.setCell ⟨w3.heap.size, 0, none⟩ (.int .i64 (v : Int))).setCell ⟨w3.heap.size, 1, none⟩ (.int .i64 (n : Int))).setCell ⟨w3.heap.size, 2, none⟩ (.slice A4 n c4) := rfl
    rw [← hbase]
    clear q0 q1 q2 qf hbase
    go_loopg [16, 19, 20, 79] (m + 1) (fun gk v16 _ _ v79 wr => ∃ j : Nat, gk + j = m + 1 ∧ j ≤ m ∧ v79 = .int .i64 (j : Int) ∧ v16 = .int .i64 0 ∧ Aside (∃ Aj cj, Kg wr w3.heap.size (v : Int) (n : Int) Aj n cj ∧ Kg wr w.heap.size (v : Int) (n : Int) A n c ∧ RdR wr Aj n (L.take (t + j) ++ Y.drop (t + j)) ∧ RdR wr B3 m M1 ∧ Below w.heap.size w wr))
    case atStart => exact ⟨0, by omega, Nat.zero_le _, rfl, rfl, A4, c4, KX5.out, KG5.out, by rw [HST.out]; exact G4.out.1, HIN.out, B5.out⟩
    case round =>
      obtain ⟨j, hgk, hjm, rfl, rfl, hA⟩ := hrel
      obtain ⟨Aj, cj, kx, kg, rx, rm, bw⟩ := hA.out
      by_cases hlt : j < m
      · obtain ⟨gf, rfl⟩ : ∃ gf, gk = gf + 1 := ⟨gk - 1, by omega⟩
        have hz : (j : Int) < (m : Int) := by omega
        have hz0 : (0 : Int) ≤ (j : Int) := by omega
        obtain ⟨l, hl⟩ : ∃ l, M1[j]? = some l := ⟨M1[j]'(by rw [HO1.out]; exact hlt), List.getElem?_eq_getElem _⟩
        obtain ⟨bb, oo, A', mm, dd, hBB, _, hc, hrd, hmd, _, hm63⟩ := rm.at j l hl
        have hll := (HOG.out j l hl).1
        have CTj := Lib.hid (CT.out Aj n cj j l A' mm dd wr bw hlt hll rx hmax hrd hmd hm63)
        have hadd : (t : Int) + (j : Int) = ((t + j : Nat) : Int) := by omega
        obtain ⟨tj, htj⟩ : ∃ tj, t + j = tj := ⟨_, rfl⟩
        rw [htj] at hadd CTj
        have HTJ := Lib.hid htj
        have q0 := kx.c0
        have q1 := kx.c1
        have q2 := kx.c2
        have KX := Lib.hid kx
        have KGj := Lib.hid kg
        have RM := Lib.hid rm
        have BWj := Lib.hid bw
        subst hBB
        clear hA kx kg rx rm bw hl hll htj hrd
        go_wp2_with fail
        refine CTj.out.mono ?_
        rintro e' w6 ⟨A6, n6, c6, rfl, g6, b6⟩
        have hn6 : n = n6 := by
          have := g6.1.1
          have h2 := HGJ.out (j + 1) (by omega)
          have e1 : tj + 1 = t + (j + 1) := by have := HTJ.out; omega
          simp only [e1] at this
          omega
        subst hn6
        have k6 := KX.out.below b6
        have r0 := k6.c0
        have r1' := k6.c1
        have r2 := k6.c2
        have rf := k6.z
        have KN := Lib.hid (k6.put (v : Int) (n : Int) A6 n c6)
        have RN := Lib.hid (g6.g3 k6 KX.out.lt (v : Int) (n : Int) (.slice A6 n c6)).1
        have GN : Hid (Kg (g3 w6 w3.heap.size (v : Int) (n : Int) (.slice A6 n c6)) w.heap.size (v : Int) (n : Int) A n c) := Lib.hid ((g3_other w6 _ _ _ _ _ (by have := HWW.out; omega)).trans (KGj.out.below b6))
        have MN := Lib.hid ((RM.out.below b6).g3 k6 (fun p e => HB3.out p e (by omega)) (v : Int) (n : Int) (.slice A6 n c6))
        have BN := Lib.hid (below_g3 (BWj.out.trans (b6.mono BWj.out.size)) (k := w3.heap.size) (by have := HWW.out; omega) (v : Int) (n : Int) (.slice A6 n c6))
        clear q0 q1 q2 g6 b6 k6 CTj hc
        go_wp2
        go_roundg gf
        case measure => omega
        case rel =>
          refine ⟨j + 1, by omega, by omega, by go_num, rfl, A6, c6, KN.out, GN.out, ?_, MN.out, BN.out⟩
          have h := RN.out
          simp only [show tj + 1 = t + (j + 1) by have := HTJ.out; omega] at h
          exact h
      · have hz : ¬ (j : Int) < (m : Int) := by omega
        have hjm' : j = m := by omega
        subst hjm'
        rw [HFI.out] at rx
        have CM := Lib.hid (same_g (v : Int) (n : Int) Aj A n n cj c L wr rx (HR0.out wr bw) (by omega) HZ.out)
        have q0 := kx.c0
        have q1 := kx.c1
        have q2 := kx.c2
        have p0 := kg.c0
        have p1 := kg.c1
        have p2 := kg.c2
        have BWj := Lib.hid bw
        clear hA kx kg rx rm bw
        go_wp2_with fail
        refine CM.out.mono ?_
        rintro e' w6 ⟨rfl, b6⟩
        have B6 := Lib.hid (BWj.out.trans (b6.mono BWj.out.size))
        have CWa := Lib.hid (awake_true w6 (HT0.out w6 B6.out))
        clear b6 CM q0 q1 q2 p0 p1 p2
        go_wp2_with fail
        refine CWa.out.mono ?_
        rintro e' w7 ⟨rfl, b7⟩
        have B7 := Lib.hid (B6.out.trans (b7.mono B6.out.size))
        clear b7
        go_wp2
        go_ret
        exact ⟨rfl, B7.out⟩

end Go.Proofs.YtokeaoapcjlmkaaDoor
