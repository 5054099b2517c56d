/-
  The statement on scrolling in steps returns true.
-/
import Derived.Test.YtokeaoapcjlmkaaDoorGrProper
import Derived.Test.YtokeaoapcjlmkaaDoorGrMore
namespace Go.Proofs.YtokeaoapcjlmkaaDoor
open Go.RowKit Go.Shelf Cr Gd

theorem wpList_guarded {ops : Array Oper} {rest : List Oper} {o : Oper} {a : Act} {w : World} {Q : Exit → Act → World → Prop} (hw : Region.wanted o (yielded ops a.tmps) = true)
    (h : wpList Tryd.prog ops Q ({ o with guard := none } :: rest) a w) : wpList Tryd.prog ops Q (o :: rest) a w := by
  unfold wpList at h ⊢
  rw [if_pos hw]
  rw [if_pos (by simp [Region.wanted])] at h
  exact h
theorem GR.empty (w : World) : GR w (w.alloc (.cells #[] 39)) (.slice (some ⟨w.heap.size, 0, none⟩) 0 0) [] :=
  ⟨[], ⟨rfl, .inr ⟨w.heap.size, 0, #[], rfl, Nat.le_refl _, heap_alloc_new w _, Nat.le_refl _, by unfold maxLen; omega, rfl, rfl⟩⟩, (Below.refl _ _).alloc (Nat.le_refl _) _, fun j h l hj => by simp at hj⟩
theorem Good.sz {v h : Nat} {L : List (List C)} (g : Gd.Good v h L) : Sz L := fun l hl => by have := g.2.2.2.2.2 l hl; have := g.2.1; omega
theorem Sz.out {L : List (List C)} (h : Sz L) (t u : Nat) : Sz (Gd.out L t u) := fun l hl => h l (List.mem_of_mem_drop (List.mem_of_mem_take hl))
theorem Sz.take {L : List (List C)} (h : Sz L) (k : Nat) : Sz (L.take k) := fun l hl => h l (List.mem_of_mem_take hl)
theorem Sz.drop {L : List (List C)} (h : Sz L) (k : Nat) : Sz (L.drop k) := fun l hl => h l (List.mem_of_mem_drop hl)

set_option maxHeartbeats 2000000 in
set_option maxRecDepth 100000 in
/-- The range of rows that is derived from two numbers. -/
theorem part_any (W : Int) (h : Nat) (A : Option Addr) (n c : Nat) (x y t s q b : Nat) (hx : x ≤ 255) (hy : y ≤ 255) (h1 : 1 ≤ h) (h60 : h ≤ 60) (ht : x % h = t) (hs : h - t = s) (hq : y % s = q) (hb : t + 1 + q = b) (w : World) :
    Calls Tryd.prog 29 #[.agg #[.int .i64 W, .int .i64 (h : Int), .slice A n c], .int .u8 (x : Int), .int .u8 (y : Int)] w fun e w' => e = .returned (.tuple #[.int .i64 (t : Int), .int .i64 (b : Int)]) ∧ Below w.heap.size w w' := by
  have hth : t < h := by rw [← ht]; exact Nat.mod_lt _ (by omega)
  have hqs : q < s := by rw [← hq]; exact Nat.mod_lt _ (by omega)
  have m1 : (x : Int).tmod (h : Int) = (t : Int) := by rw [← ht]; exact (Int.ofNat_tmod x h).symm
  have m2 : (y : Int).tmod (s : Int) = (q : Int) := by rw [← hq]; exact (Int.ofNat_tmod y s).symm
  obtain ⟨t1, ht1⟩ : ∃ t1, t + 1 = t1 := ⟨_, rfl⟩
  have w1 : IntKind.i64.wrap (x : Int) = (x : Int) := by rw [IntKind.wrap_i64]; omega
  have w2 : IntKind.i64.wrap (y : Int) = (y : Int) := by rw [IntKind.wrap_i64]; omega
  have w3 : IntKind.i64.wrap ((t : Int) + 1) = (t1 : Int) := by rw [IntKind.wrap_i64]; omega
  have w4 : IntKind.i64.wrap ((h : Int) - (t : Int)) = (s : Int) := by rw [IntKind.wrap_i64]; omega
  have w5 : IntKind.i64.wrap ((t1 : Int) + (q : Int)) = (b : Int) := by rw [IntKind.wrap_i64]; omega
  have w6 : IntKind.i64.wrap (t : Int) = (t : Int) := by rw [IntKind.wrap_i64]; omega
  have w7 : IntKind.i64.wrap (q : Int) = (q : Int) := by rw [IntKind.wrap_i64]; omega
  have z1 : ¬ (h : Int) = 0 := by omega
  have z2 : ¬ (s : Int) = 0 := by omega
  have z3 : ((h : Int) == 0) = false := by simpa using z1
  have z4 : ((s : Int) == 0) = false := by simpa using z2
  have z5 : ¬ (h : Int) = -1 := by omega
  have z6 : ¬ (s : Int) = -1 := by omega
  have HV := Lib.hid ((Below.refl w.heap.size w).alloc (Nat.le_refl _) (.cells #[.int .i64 W, .int .i64 (h : Int), .slice A n c] 24)).drew
  have q1 := (Kg.new w W (h : Int) A n c).c1
  clear ht hs hq hb ht1
  go_enter Tryd.func29, Tryd.ntmps29
  go_wp2
  go_region
  go_wp2
  go_ret2
  exact ⟨rfl, HV.out⟩

set_option maxHeartbeats 4000000 in
set_option maxRecDepth 100000 in
theorem steps_walk (W H : Int) (A : Option Addr) (n c : Nat) (L : List (List C)) (x1 x2 x3 x4 : Int) (f b g : Int) (w : World) (hr : RdR w A n L) (hnc : n ≤ c) (hmax : n ≤ 9223372036854775807) (a1 : 0 ≤ x1) (b1 : x1 ≤ 255) (a2 : 0 ≤ x2) (b2 : x2 ≤ 255) (a3 : 0 ≤ x3) (b3 : x3 ≤ 255) (a4 : 0 ≤ x4) (b4 : x4 ≤ 255) (hT : Lib.Utf8Tabs 0 1 w) :
    Calls Tryd.prog 8 #[.agg #[.int .i64 W, .int .i64 H, .slice A n c], .int .u8 x1, .int .u8 x2, .int .u8 x3, .int .u8 x4, .agg #[.int .i64 f, .int .i64 b, .int .i64 g]] w fun e w' => e = .returned (.bool true) ∧ Below w.heap.size w w' := by
  obtain ⟨V, hV⟩ : ∃ V, (w.alloc (.cells #[.int .i64 W, .int .i64 H, .slice A n c] 24)).alloc (.cells #[.int .i64 f, .int .i64 b, .int .i64 g] 34) = V := ⟨_, rfl⟩
  obtain ⟨k1, kA, bV⟩ := ga_in w W H A n c f b g
  rw [hV] at k1 kA bV
  have K1 := Lib.hid k1
  have KA : Hid (Ka V (w.heap.size + 1) f b g) := Lib.hid kA
  have BV := Lib.hid bV
  have HR := Lib.hid (fun U (h : Below V.heap.size V U) => hr.below (bV.trans (h.mono bV.size)))
  have HT := Lib.hid (fun U (h : Below V.heap.size V U) => Utf8Tabs_below hT (bV.trans (h.mono bV.size)))
  have CR := Lib.hid (right_any W H A n c L V (hr.below bV) hmax)
  have CW := Lib.hid (fun U (hu : Below V.heap.size V U) => awake_true U (HT.out U hu))
  obtain ⟨y1, rfl⟩ : ∃ y1 : Nat, x1 = (y1 : Int) := ⟨x1.toNat, by omega⟩
  obtain ⟨y2, rfl⟩ : ∃ y2 : Nat, x2 = (y2 : Int) := ⟨x2.toNat, by omega⟩
  obtain ⟨y3, rfl⟩ : ∃ y3 : Nat, x3 = (y3 : Int) := ⟨x3.toNat, by omega⟩
  obtain ⟨y4, rfl⟩ : ∃ y4 : Nat, x4 = (y4 : Int) := ⟨x4.toNat, by omega⟩
  clear hr hT k1 kA bV
  by_cases hq : greatR L = true ∨ gE W H L ≠ 0
  · rw [if_pos hq] at CR
    clear hq
    subst hV
    go_enter Tryd.func8, Tryd.ntmps8
    go_wp2_with fail
    refine CR.out.mono ?_
    rintro e w1 ⟨rfl, b1⟩
    have CW1 := Lib.hid (CW.out w1 b1)
    have B1 := Lib.hid (BV.out.trans (b1.mono BV.out.size))
    clear b1
    go_wp2_with fail
    refine CW1.out.mono ?_
    rintro e w2 ⟨rfl, b2⟩
    have B2 := Lib.hid (B1.out.trans (b2.mono B1.out.size))
    clear b2
    go_wp2
    go_ret
    exact ⟨rfl, B2.out⟩
  · rw [if_neg hq] at CR
    obtain ⟨hgr, hgE⟩ := right_ok hq
    obtain ⟨hl10, hsm, hlen⟩ := greatR_false hgr
    obtain ⟨v, h, rfl, rfl, hgood⟩ := gE_good hgE
    have hLh : L.length = h := hgood.2.2.2.2.1
    have hnh : n = h := by have := (HR.out V (Below.refl _ _)).1; omega
    subst hnh
    have hh1 : 1 ≤ n := hgood.2.2.1
    have hh60 : n ≤ 60 := hgood.2.2.2.1
    -- the numbers
    obtain ⟨t, ht⟩ : ∃ t, y1 % n = t := ⟨_, rfl⟩
    obtain ⟨s, hs⟩ : ∃ s, n - t = s := ⟨_, rfl⟩
    obtain ⟨q, hq'⟩ : ∃ q, y2 % s = q := ⟨_, rfl⟩
    obtain ⟨e, he⟩ : ∃ e, t + 1 + q = e := ⟨_, rfl⟩
    have hth : t < n := by rw [← ht]; exact Nat.mod_lt _ (by omega)
    have hqs : q < s := by rw [← hq']; exact Nat.mod_lt _ (by omega)
    have hte : t < e := by omega
    have hen : e ≤ n := by omega
    have CP := Lib.hid (fun U => part_any (v : Int) n A n c y1 y2 t s q e (by omega) (by omega) hh1 hh60 ht hs hq' he U)
    obtain ⟨r, hrr⟩ : ∃ r, e - t = r := ⟨_, rfl⟩
    obtain ⟨r1, hr1⟩ : ∃ r1, r + 1 = r1 := ⟨_, rfl⟩
    obtain ⟨m, hm⟩ : ∃ m, y3 % r1 = m := ⟨_, rfl⟩
    have hmr : m < r1 := by rw [← hm]; exact Nat.mod_lt _ (by omega)
    obtain ⟨u, hu⟩ : ∃ u, r - m = u := ⟨_, rfl⟩
    obtain ⟨u1, hu1⟩ : ∃ u1, u + 1 = u1 := ⟨_, rfl⟩
    obtain ⟨k, hk⟩ : ∃ k, y4 % u1 = k := ⟨_, rfl⟩
    have hku : k < u1 := by rw [← hk]; exact Nat.mod_lt _ (by omega)
    obtain ⟨mk, hmk⟩ : ∃ mk, m + k = mk := ⟨_, rfl⟩
    have i1 : (e : Int) - (t : Int) = (r : Int) := by omega
    have i2 : (r : Int) + 1 = (r1 : Int) := by omega
    have i3 : (y3 : Int).tmod (r1 : Int) = (m : Int) := by rw [← hm]; exact (Int.ofNat_tmod y3 r1).symm
    have i4 : (r : Int) - (m : Int) = (u : Int) := by omega
    have i5 : (u : Int) + 1 = (u1 : Int) := by omega
    have i6 : (y4 : Int).tmod (u1 : Int) = (k : Int) := by rw [← hk]; exact (Int.ofNat_tmod y4 u1).symm
    have i7 : (m : Int) + (k : Int) = (mk : Int) := by omega
    have z1 : ¬ (r1 : Int) = 0 := by omega
    have z2 : ¬ (u1 : Int) = 0 := by omega
    have z3 : ((r1 : Int) == 0) = false := by simpa using z1
    have z4 : ((u1 : Int) == 0) = false := by simpa using z2
    have hr60 : r ≤ 60 := by omega
    -- the grids
    have hgood1 := hgood.scr (t := t) (b := e) (u := m) (d := 0) b hte hen (by omega)
    have E1 := scrollR_up hgood hte hen (m := m) (by omega) b
    have E2 := scrollR_up hgood1 hte hen (m := k) (by omega) b
    have E3 := scrollR_up hgood hte hen (m := mk) (by omega) b
    have hLL := scr_scr (L := L) (t := t) (b := e) (m := m) (n := k) (blanks v b) hte (by omega) (by omega)
    have hMM := out_out (L := L) (t := t) (b := e) (m := m) (n := k) (blanks v b) hte (by omega) (by omega)
    rw [hmk] at hLL hMM
    have hsm1 := hsm.scr t e m 0 v b
    have hz := Good.sz hgood
    have hz1 := Good.sz hgood1
    have hgood3 := hgood.scr (t := t) (b := e) (u := mk) (d := 0) b hte hen (by omega)
    have hz3 := Good.sz hgood3
    have hl3 : (scr L t e mk 0 (blanks v b)).length = n := hgood3.2.2.2.2.1
    have htk := scr_take (L := L) (t := t) (b := e) (u := mk) (d := 0) (blanks v b) hte (by omega)
    have hdk := scr_drop (L := L) (t := t) (b := e) (u := mk) (d := 0) (blanks v b) hte (by omega) (by omega)
    have hl1 : (scr L t e m 0 (blanks v b)).length = n := hgood1.2.2.2.2.1
    have ho1 := out_length (L := L) (t := t) (b := e) (u := m) hte (by omega) (by omega)
    have ho2 := out_length (L := scr L t e m 0 (blanks v b)) (t := t) (b := e) (u := k) hte (by omega) (by omega)
    have hzo1 := hz.out t m
    have hzo3 := hz.out t mk
    have CS := Lib.hid (fun U (hu : Below V.heap.size V U) => gscroll_any (v : Int) (n : Int) A n c L (t : Int) (e : Int) (m : Int) f b g U (HR.out U hu) hnc hmax hsm (HT.out U hu))
    rw [E1] at CS
    have CS2 := Lib.hid (fun (A3 : Option Addr) (n3 c3 : Nat) U (hu : Below V.heap.size V U) (hr3 : RdR U A3 n3 (scr L t e m 0 (blanks v b))) (hc3 : n3 ≤ c3) (hn3 : n3 ≤ 9223372036854775807) => gscroll_any (v : Int) (n : Int) A3 n3 c3 (scr L t e m 0 (blanks v b)) (t : Int) (e : Int) (k : Int) f b g U hr3 hc3 hn3 hsm1 (HT.out U hu))
    rw [E2] at CS2
    have CS3 := Lib.hid (fun U (hu : Below V.heap.size V U) => gscroll_any (v : Int) (n : Int) A n c L (t : Int) (e : Int) (mk : Int) f b g U (HR.out U hu) hnc hmax hsm (HT.out U hu))
    rw [E3] at CS3
    rw [hLL] at CS2
    generalize scr L t e m 0 (blanks v b) = L1 at *
    generalize scr L t e mk 0 (blanks v b) = L3 at *
    generalize out L t m = M1 at *
    generalize out L1 t k = M2 at *
    generalize out L t mk = M3 at *
    have HL1 := Lib.hid hl1
    have HL3 := Lib.hid hl3
    have HMM := Lib.hid hMM
    have HTK := Lib.hid htk
    have HDK := Lib.hid hdk
    have HO1 := Lib.hid ho1
    have HO2 := Lib.hid ho2
    have HZ := Lib.hid hz
    have HZ3 := Lib.hid hz3
    have HZO3 := Lib.hid hzo3
    have HLN := Lib.hid hLh
    have hen' : (e : Int) ≤ (n : Int) := by omega
    have hte' : (t : Int) ≤ (e : Int) := by omega
    have ht0 : (0 : Int) ≤ (t : Int) := by omega
    have he0 : (0 : Int) ≤ (e : Int) := by omega
    have htn : (t : Int) ≤ (n : Int) := by omega
    have hncz : (n : Int) ≤ (c : Int) := by omega
    have hez : (e : Int) ≤ 60 := by omega
    have htc : (t : Int) ≤ (c : Int) := by omega
    have hec : (e : Int) ≤ (c : Int) := by omega
    obtain ⟨ab, ao, rfl⟩ := (HR.out V (Below.refl _ _)).addr (by omega)
    obtain ⟨R6, hR6⟩ : ∃ R6, (if c = e then some ⟨ab, ao, none⟩ else some (⟨ab, ao + e, none⟩ : Addr)) = R6 := ⟨_, rfl⟩
    have hnn : ((n : Int) == (n : Int)) = true := beq_self_eq_true _
    clear hq hgr hgE hl10 hsm hlen hgood hgood1 hgood3 E1 E2 E3 hLL hMM hsm1 hz hz1 hz3 hl3 htk hdk hl1 ho1 ho2 hzo1 hzo3 ht hs hq' he hrr hr1 hm hu hu1 hk hmk hLh
    subst hV
    go_enter Tryd.func8, Tryd.ntmps8
    go_wp2_with fail
    refine CR.out.mono ?_
    rintro e' w1 ⟨rfl, d1⟩
    have D1 := Lib.hid d1
    have p0 := (K1.out.below d1).c0
    have p1 := (K1.out.below d1).c1
    have p2 := (K1.out.below d1).c2
    clear d1 CR
    go_wp2_with fail
    refine (CP.out w1).mono ?_
    rintro e' w2 ⟨rfl, d2⟩
    have D2 := Lib.hid (D1.out.trans (d2.mono D1.out.size))
    clear d2 CP p0 p1 p2
    have p0 := (K1.out.below D2.out).c0
    have p1 := (K1.out.below D2.out).c1
    have p2 := (K1.out.below D2.out).c2
    have a0 := (KA.out.below D2.out).c0
    have a1 := (KA.out.below D2.out).c1
    have a2 := (KA.out.below D2.out).c2
    have CSa := Lib.hid (CS.out w2 D2.out)
    clear CS
    go_wp2_with fail
    refine CSa.out.mono ?_
    rintro e' w3 ⟨A3, n3, c3, B3, m3, e3, rfl, g3, g3', b3'⟩
    have hn3 : n = n3 := HL1.out.symm.trans g3.1.1
    have hm3 : m = m3 := HO1.out.symm.trans g3'.1.1
    subst hn3 hm3
    have bx := (Below.refl w3.heap.size w3).alloc (Nat.le_refl _) (.cells #[.int .i64 (v : Int), .int .i64 (n : Int), .slice A3 n c3] 24)
    have d3 := D2.out.trans ((b3'.trans (bx.mono b3'.size)).mono D2.out.size)
    have D3 := Lib.hid d3
    have G3 := Lib.hid (g3.below bx)
    have M3' := Lib.hid (g3'.below bx)
    have CSb := Lib.hid (CS2.out A3 n c3 _ d3 G3.out.1 G3.out.2.1.2 hmax)
    clear g3 g3' b3' bx p0 p1 p2 a0 a1 a2 CS2 CSa
    have a0 := (KA.out.below d3).c0
    have a1 := (KA.out.below d3).c1
    have a2 := (KA.out.below d3).c2
    clear d3
    go_wp2_with fail
    refine CSb.out.mono ?_
    rintro e' w4 ⟨A4, n4, c4, B4, m4, e4, rfl, g4, g4', b4'⟩
    have hn4 : n = n4 := HL3.out.symm.trans g4.1.1
    have hm4 : k = m4 := HO2.out.symm.trans g4'.1.1
    subst hn4 hm4
    have bx := (Below.refl w4.heap.size w4).alloc (Nat.le_refl _) (.cells #[.int .i64 (v : Int), .int .i64 (n : Int), .slice A4 n c4] 24)
    have s4 := b4'.trans (bx.mono b4'.size)
    have d4 := D3.out.trans (s4.mono D3.out.size)
    have D4 := Lib.hid d4
    have K4 := Lib.hid (Kg.new w4 (v : Int) (n : Int) A4 n c4)
    have G4 := Lib.hid (g4.below bx)
    have M4' := Lib.hid (g4'.below bx)
    have M34 := Lib.hid (M3'.out.below s4)
    have CSc := Lib.hid (CS3.out _ d4)
    clear g4 g4' b4' bx s4 a0 a1 a2 CS3 CSb G3 M3'
    have p0 := (K1.out.below d4).c0
    have p1 := (K1.out.below d4).c1
    have p2 := (K1.out.below d4).c2
    have a0 := (KA.out.below d4).c0
    have a1 := (KA.out.below d4).c1
    have a2 := (KA.out.below d4).c2
    clear d4
    go_wp2_with fail
    refine CSc.out.mono ?_
    rintro e' w5 ⟨A5, n5, c5, B5, m5, e5, rfl, g5, g5', b5'⟩
    have hn5 : n = n5 := HL3.out.symm.trans g5.1.1
    subst hn5
    have hm5 : M3.length = m5 := g5'.1.1
    have bx := (Below.refl w5.heap.size w5).alloc (Nat.le_refl _) (.cells #[.int .i64 (v : Int), .int .i64 (n : Int), .slice A5 n c5] 24)
    have s5 := b5'.trans (bx.mono b5'.size)
    have d5 := D4.out.trans (s5.mono D4.out.size)
    have D5 := Lib.hid d5
    have K5 := Lib.hid (Kg.new w5 (v : Int) (n : Int) A5 n c5)
    have G5 := Lib.hid (g5.below bx)
    have M5 := Lib.hid (g5'.below bx)
    have M35 := Lib.hid (M34.out.below s5)
    have M45 := Lib.hid (M4'.out.below s5)
    have y0 := (K4.out.below s5).c0
    have y1' := (K4.out.below s5).c1
    have y2' := (K4.out.below s5).c2
    have CM := Lib.hid (same_g (v : Int) (n : Int) A4 A5 n n c4 c5 L3 _ (G4.out.below s5).1 G5.out.1 (by omega) HZ3.out)
    obtain ⟨zb, zo, rfl⟩ := G5.out.1.addr (by omega)
    clear g5 g5' b5' bx s5 p0 p1 p2 a0 a1 a2 CSc M34 M4' d5
    go_wp2_with fail
    refine CM.out.mono ?_
    rintro e' w6 ⟨rfl, b6⟩
    have D6 := Lib.hid (D5.out.trans (b6.mono D5.out.size))
    have K6 := Lib.hid (K5.out.below b6)
    have G6 := Lib.hid (G5.out.below b6)
    have Y1 := Lib.hid (((M35.out.below b6).1).old (GR.empty w6))
    have N1 := Lib.hid M35.out.2.1.1
    have Y2 := Lib.hid (M45.out.below b6).1
    have N2 := Lib.hid M45.out.2.1.1
    have Y3 := Lib.hid (M5.out.below b6).1
    have E6 := Lib.hid (GR.empty w6)
    have l1 : ([] : List (List C)).length + M1.length ≤ 100000 := by rw [HO1.out]; simp; omega
    have l2 : M1.length + M2.length ≤ 100000 := by rw [HO1.out, HO2.out]; omega
    clear b6 y0 y1' y2' CM G5 M5 M35 M45
    go_wp2_with (first
      | (at_builtin; refine wpList_guarded rfl ?_; refine wpList_joinR rfl (.tmp 102) (.tmp 103) rfl w6 _ _ [] M1 B3 m e3 rfl rfl E6.out Y1.out N1.out l1 ?_; intro A7 c7 w7 hO7; have G7 : Hid (GR w6 w7 (.slice A7 M1.length c7) M1) := Lib.hid (by have h := hO7.out.1; rw [List.nil_append, List.length_nil, Nat.zero_add] at h; exact h); have Y7 := Lib.hid (Y2.out.old G7.out); clear hO7)
      | (at_builtin; refine wpList_guarded rfl ?_; refine wpList_joinR rfl (.tmp 104) (.tmp 105) rfl w6 w7 _ M1 M2 B4 k e4 rfl rfl G7.out Y7.out N2.out l2 ?_; intro A8 c8 w8 hO8; have G8 := Lib.hid hO8.out.1; clear hO8))
    have hlm : M3.length ≤ 1000 := by rw [← HMM.out, List.length_append, HO1.out, HO2.out]; omega
    have CN := Lib.hid (sameRows_any A8 B5 (M1.length + M2.length) m5 c8 e5 (M1 ++ M2) M3 w8 G8.out.rd.1 (Y3.out.below G8.out.bel) (by rw [HO1.out, HO2.out]; omega) (by omega) (by rw [HMM.out]; exact HZO3.out) HZO3.out)
    rw [decide_eq_true HMM.out] at CN
    refine CN.out.mono ?_
    rintro e' w9 ⟨rfl, b9⟩
    have D8 := G8.out.bel.trans (b9.mono G8.out.bel.size)
    have D9 := Lib.hid (D6.out.trans (D8.mono D6.out.size))
    have K9 := Lib.hid (K6.out.below D8)
    have G9 := Lib.hid (G6.out.below D8)
    clear b9 D8 CN G7 G8 Y1 Y2 Y3 Y7 E6
    obtain ⟨R5, hR5⟩ : ∃ R5, (if c5 = e then some ⟨zb, zo, none⟩ else some (⟨zb, zo + e, none⟩ : Addr)) = R5 := ⟨_, rfl⟩
    have hc5 := G9.out.2.1.2
    have hc5z : (n : Int) ≤ (c5 : Int) := by omega
    have htc5 : (t : Int) ≤ (c5 : Int) := by omega
    have hec5 : (e : Int) ≤ (c5 : Int) := by omega
    have SA := Lib.hid (fun W (h : Below w9.heap.size w9 W) => sameRows_any (some ⟨zb, zo, none⟩) (some ⟨ab, ao, none⟩) t t c5 c (L3.take t) (L.take t) W ((G9.out.below h).1.head (by omega)) ((HR.out W (D9.out.trans (h.mono D9.out.size))).head (by omega)) (by omega) (by omega) (HZ3.out.take t) (HZ.out.take t))
    have SB' := Lib.hid (fun W (h : Below w9.heap.size w9 W) => sameRows_any R5 R6 (n - e) (n - e) (c5 - e) (c - e) (L3.drop e) (L.drop e) W ((G9.out.below h).1.tail (by omega) hc5 hR5) ((HR.out W (D9.out.trans (h.mono D9.out.size))).tail (by omega) hnc hR6) (by omega) (by omega) (HZ3.out.drop e) (HZ.out.drop e))
    have SC := Lib.hid (fun W (h : Below w9.heap.size w9 W) => CW.out W (D9.out.trans (h.mono D9.out.size)))
    rw [decide_eq_true HTK.out] at SA
    rw [decide_eq_true HDK.out] at SB'
    have sB : ∀ {W W' : World}, Below W.heap.size W W' → (W.cell? ⟨w5.heap.size, 2, none⟩ = some (.slice (some ⟨zb, zo, none⟩) n c5) ∧ W.cell? ⟨w.heap.size, 1, none⟩ = some (.int .i64 (n : Int)) ∧ W.cell? ⟨w.heap.size, 2, none⟩ = some (.slice (some ⟨ab, ao, none⟩) n c) ∧ Aside (Below w9.heap.size w9 W)) → (W'.cell? ⟨w5.heap.size, 2, none⟩ = some (.slice (some ⟨zb, zo, none⟩) n c5) ∧ W'.cell? ⟨w.heap.size, 1, none⟩ = some (.int .i64 (n : Int)) ∧ W'.cell? ⟨w.heap.size, 2, none⟩ = some (.slice (some ⟨ab, ao, none⟩) n c) ∧ Aside (Below w9.heap.size w9 W')) := fun {W W'} hb h => by
      have hb' := h.2.2.2.out.trans (hb.mono h.2.2.2.out.size)
      exact ⟨(K9.out.below hb').c2, (K1.out.below (D9.out.trans (hb'.mono D9.out.size))).c1, (K1.out.below (D9.out.trans (hb'.mono D9.out.size))).c2, hb'⟩
    have hS : w9.drew.cell? ⟨w5.heap.size, 2, none⟩ = some (.slice (some ⟨zb, zo, none⟩) n c5) ∧ w9.drew.cell? ⟨w.heap.size, 1, none⟩ = some (.int .i64 (n : Int)) ∧ w9.drew.cell? ⟨w.heap.size, 2, none⟩ = some (.slice (some ⟨ab, ao, none⟩) n c) ∧ Aside (Below w9.heap.size w9 w9.drew) := sB (Below.refl w9.heap.size w9).drew ⟨K9.out.c2, (K1.out.below D9.out).c1, (K1.out.below D9.out).c2, Below.refl _ _⟩
    clear CW
    go_wp2
    go_region_held3 (fun W => W.cell? ⟨w5.heap.size, 2, none⟩ = some (.slice (some ⟨zb, zo, none⟩) n c5) ∧ W.cell? ⟨w.heap.size, 1, none⟩ = some (.int .i64 (n : Int)) ∧ W.cell? ⟨w.heap.size, 2, none⟩ = some (.slice (some ⟨ab, ao, none⟩) n c) ∧ Aside (Below w9.heap.size w9 W))
      (assumption)
      (first
        | (go_at_call 20; (with_reducible refine (SA.out _ (hS.2.2.2.out)).mono ?_); rintro e' w10 ⟨rfl, b10⟩; have hs10 := sB b10 (by assumption); clear b10 SA)
        | (go_at_call 20; (with_reducible refine (SB'.out _ hs10.2.2.2.out).mono ?_); rintro e' w11 ⟨rfl, b11⟩; have hs11 := sB b11 (by assumption); clear b11)
        | (go_at_call 12; (with_reducible refine (SC.out _ hs11.2.2.2.out).mono ?_); rintro e' w12 ⟨rfl, b12⟩; have hs12 := sB b12 (by assumption); clear b12))
    have B12 := Lib.hid (BV.out.trans ((D9.out.trans (hs12.2.2.2.out.mono D9.out.size)).mono BV.out.size))
    clear sB hS hs10 hs11 hs12
    go_wp2
    go_ret
    exact ⟨rfl, B12.out⟩

end Go.Proofs.YtokeaoapcjlmkaaDoor
