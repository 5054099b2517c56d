/-
  What Scroll of grid returns.
-/
import Derived.Test.YtgmgnlgolhjhmaaDoorGrThree
import Derived.Deep.RegionHeld3
namespace Go.Proofs.YtgmgnlgolhjhmaaDoor
open Go.RowKit Go.Shelf Cr Gd

theorem scrollR_bad {W H : Int} {L : List (List C)} {t u d c : Int} (h : useE W H L (decide (0 ≤ t ∧ t < u ∧ u ≤ H)) ≠ 0) : scrollR W H L t u d c = bad (useE W H L (decide (0 ≤ t ∧ t < u ∧ u ≤ H))) := by
  unfold scrollR useE at *
  split
  · rfl
  · rename_i h1
    rw [if_neg h1] at h
    split
    · rename_i h2; rw [decide_eq_false h2, if_neg (by decide)]
    · rename_i h2
      rw [decide_eq_true (Decidable.not_not.1 h2), if_pos rfl] at h
      exact absurd rfl h
theorem scrollR_ok {W H : Int} {L : List (List C)} {t u d c : Int} (h : useE W H L (decide (0 ≤ t ∧ t < u ∧ u ≤ H)) = 0) : scrollR W H L t u d c =
    ⟨0, W, H, scr L t.toNat u.toNat (max (lim t u d) 0).toNat (max (-(lim t u d)) 0).toNat (blanks W.toNat c), out L t.toNat (max (lim t u d) 0).toNat⟩ := by
  obtain ⟨h1, h2⟩ := useE_zero h
  unfold scrollR
  rw [if_neg (by omega), if_neg (by have := of_decide_eq_true h2; omega)]
theorem rows_mid {L : List (List C)} (h : ∀ l ∈ L, 1 ≤ l.length ∧ l.length ≤ 1000) (i k : Nat) : ∀ l ∈ (L.drop i).take k, 1 ≤ l.length ∧ l.length ≤ 1000 := fun x hx => h x (List.mem_of_mem_drop (List.mem_of_mem_take hx))

set_option maxHeartbeats 4000000 in
set_option maxRecDepth 100000 in
theorem gscroll_any (W H : Int) (A : Option Addr) (n c : Nat) (L : List (List C)) (tp bt by' f b g : Int) (w : World) (hr : RdR w A n L) (hnc : n ≤ c) (hmax : n ≤ 9223372036854775807) (hs : SmR L) (hT : Lib.Utf8Tabs 0 1 w) :
    Calls Tryd.prog 29 #[.agg #[.int .i64 W, .int .i64 H, .slice A n c], .int .i64 tp, .int .i64 bt, .int .i64 by', .agg #[.int .i64 f, .int .i64 b, .int .i64 g]] w fun e w' => Out3 w (scrollR W H L tp bt by' b) e w' := by
  obtain ⟨V, hV⟩ : ∃ V, ((w.alloc (.cells #[.int .i64 W, .int .i64 H, .slice A n c] 35)).alloc (.cells #[.int .i64 f, .int .i64 b, .int .i64 g] 44)).alloc (.cells #[.int .i64 0, .int .i64 0, .slice none 0 0] 35) = V := ⟨_, rfl⟩
  obtain ⟨k1, kA, k2, bV⟩ := three_in w W H A n c f b g
  rw [hV] at k1 kA k2 bV
  have K1 := Lib.hid k1
  have KA := Lib.hid (fun U (h : Below V.heap.size V U) => (h.block _ (Array.getElem?_eq_some_iff.1 kA).1).trans kA)
  have K2 := Lib.hid k2
  have BV := Lib.hid bV
  have HR := Lib.hid (fun U (h : Below w.heap.size w U) => hr.below h)
  have CU := Lib.hid (fun r => checkUse_any W H A n c L r V (hr.below bV) hmax hs (Utf8Tabs_below hT bV))
  have key : (0 ≤ tp ∧ tp < bt ∧ bt ≤ H) ∨ ¬ 0 ≤ tp ∨ (0 ≤ tp ∧ ¬ tp < bt) ∨ (0 ≤ tp ∧ tp < bt ∧ ¬ bt ≤ H) := by omega
  clear hr hT k1 k2 bV kA
  by_cases hq : useE W H L (decide (0 ≤ tp ∧ tp < bt ∧ bt ≤ H)) = 0
  · rw [scrollR_ok hq]
    obtain ⟨hgE, hrr⟩ := useE_zero hq
    have hrow := of_decide_eq_true hrr
    obtain ⟨v, h, rfl, rfl, hgood⟩ := gE_good hgE
    have CU1 := Lib.hid (CU.out true)
    rw [hrr] at hq
    rw [hq] at CU1
    obtain ⟨r1, r2, r3⟩ := hrow
    obtain ⟨i, rfl⟩ : ∃ i : Nat, tp = (i : Int) := ⟨tp.toNat, by omega⟩
    obtain ⟨j, rfl⟩ : ∃ j : Nat, bt = (j : Int) := ⟨bt.toNat, by omega⟩
    obtain ⟨d, hd⟩ : ∃ d, lim (i : Int) (j : Int) by' = d := ⟨_, rfl⟩
    rw [hd]
    have hnh : n = h := by have := (HR.out w (Below.refl _ _)).1; have := hgood.2.2.2.2.1; omega
    subst hnh
    have hLn : L.length = n := hgood.2.2.2.2.1
    have hn60 : n ≤ 60 := hgood.2.2.2.1
    have hn1 : 1 ≤ n := hgood.2.2.1
    have hv : 1 ≤ v ∧ v ≤ 132 := ⟨hgood.1, hgood.2.1⟩
    have hij : i < j := by omega
    have hjn : j ≤ n := by omega
    obtain ⟨s, hs'⟩ : ∃ s, j - i = s := ⟨_, rfl⟩
    have hsz : (j : Int) - (i : Int) = (s : Int) := by omega
    obtain ⟨mn, hmn⟩ : ∃ mn, min by' (s : Int) = mn := ⟨_, rfl⟩
    have hmx : max (-(s : Int)) mn = d := by rw [← hd, ← hmn]; unfold lim; rw [hsz]
    have hd1 : -(s : Int) ≤ d ∧ d ≤ (s : Int) := by rw [← hmx, ← hmn]; omega
    obtain ⟨u, hu⟩ : ∃ u, (max d 0).toNat = u := ⟨_, rfl⟩
    obtain ⟨dn, hdn⟩ : ∃ dn, (max (-d) 0).toNat = dn := ⟨_, rfl⟩
    have hup : max d 0 = (u : Int) := by omega
    have hdw : max (-d) 0 = (dn : Int) := by omega
    have hud : u + dn ≤ s := by omega
    rw [hu, hdn, Int.toNat_natCast, Int.toNat_natCast, Int.toNat_natCast]
    obtain ⟨x, hx⟩ : ∃ x, i + u = x := ⟨_, rfl⟩
    have hxz : (i : Int) + (u : Int) = (x : Int) := by omega
    obtain ⟨y, hy⟩ : ∃ y, j - dn = y := ⟨_, rfl⟩
    have hyz : (j : Int) - (dn : Int) = (y : Int) := by omega
    have hxy : x ≤ y := by omega
    have hyn : y ≤ n := by omega
    have hrok := rows_ok hgood
    obtain ⟨ab, ao, rfl⟩ := (HR.out w (Below.refl _ _)).addr (by omega)
    obtain ⟨R2, hR2⟩ : ∃ R2, (if c = x then some ⟨ab, ao, none⟩ else some (⟨ab, ao + x, none⟩ : Addr)) = R2 := ⟨_, rfl⟩
    obtain ⟨R3, hR3⟩ : ∃ R3, (if c = j then some ⟨ab, ao, none⟩ else some (⟨ab, ao + j, none⟩ : Addr)) = R3 := ⟨_, rfl⟩
    obtain ⟨R4, hR4⟩ : ∃ R4, (if c = i then some ⟨ab, ao, none⟩ else some (⟨ab, ao + i, none⟩ : Addr)) = R4 := ⟨_, rfl⟩
    have CB := Lib.hid (fun U => blankRows_any (v : Int) b U)
    have C1 := Lib.hid (fun U (h : Below w.heap.size w U) => copyRows_any (some ⟨ab, ao, none⟩) i c (L.take i) (by omega) U ((HR.out U h).head (by omega)) (rows_take hrok _))
    have C2 := Lib.hid (fun p q U (h : Bl U p q (v : Int) b) => blankFn_any p q v b dn (by omega) hv U h)
    have C3 := Lib.hid (fun U (h : Below w.heap.size w U) => copyRows_any R2 (y - x) (c - x) ((L.drop x).take (y - x)) (by omega) U ((HR.out U h).mid hxy hyn hnc hR2) (rows_mid hrok _ _))
    have C4 := Lib.hid (fun p q U (h : Bl U p q (v : Int) b) => blankFn_any p q v b u (by omega) hv U h)
    have C5 := Lib.hid (fun U (h : Below w.heap.size w U) => copyRows_any R3 (n - j) (c - j) (L.drop j) (by omega) U ((HR.out U h).tail hjn hnc hR3) (rows_drop hrok _))
    have hxi : x - i = u := by omega
    have C7 := Lib.hid (fun U (h : Below w.heap.size w U) => copyRows_any R4 (x - i) (c - i) ((L.drop i).take (x - i)) (by omega) U ((HR.out U h).mid (by omega) (by omega) hnc hR4) (rows_mid hrok _ _))
    have HXI := Lib.hid hxi
    have CO := Lib.hid (fun A n c U => gridOf_any (v : Int) A n c U)
    have hfl : ([L.take i, List.replicate dn (blanks v b), (L.drop x).take (y - x), List.replicate u (blanks v b), L.drop j] : List (List (List C))).flatten = scr L i j u dn (blanks v b) := by
      subst hx hy
      simp [scr]
    have hfn : ([L.take i, List.replicate dn (blanks v b), (L.drop x).take (y - x), List.replicate u (blanks v b), L.drop j] : List (List (List C))).flatten.length = n := by
      rw [hfl]; exact (hgood.scr b hij hjn (by omega)).2.2.2.2.1
    have hout : out L i u = (L.drop i).take (x - i) := by unfold out; rw [hxi]
    rw [← hfl, hout]
    obtain ⟨FL, hFL⟩ : ∃ FL, ([L.take i, List.replicate dn (blanks v b), (L.drop x).take (y - x), List.replicate u (blanks v b), L.drop j] : List (List (List C))).flatten = FL := ⟨_, rfl⟩
    have CC := Lib.hid (fun (p : Nat) (s1 s2 s3 s4 s5 : Value) (U : World) (hp : U.heap[p]? = some (.cells #[s1, s2, s3, s4, s5] 22)) (h1 : Prt U s1 (L.take i)) (h2 : Prt U s2 (List.replicate dn (blanks v b))) (h3 : Prt U s3 ((L.drop x).take (y - x))) (h4 : Prt U s4 (List.replicate u (blanks v b))) (h5 : Prt U s5 (L.drop j)) =>
      concat_any p 5 [s1, s2, s3, s4, s5] [L.take i, List.replicate dn (blanks v b), (L.drop x).take (y - x), List.replicate u (blanks v b), L.drop j] U rfl rfl (by decide) hp (fun q z M hq hM => by
        match q, hq, hM with
        | 0, hq, hM => obtain rfl : s1 = z := Option.some.inj hq
                       obtain rfl : L.take i = M := Option.some.inj hM
                       exact h1
        | 1, hq, hM => obtain rfl : s2 = z := Option.some.inj hq
                       obtain rfl : List.replicate dn (blanks v b) = M := Option.some.inj hM
                       exact h2
        | 2, hq, hM => obtain rfl : s3 = z := Option.some.inj hq
                       obtain rfl : (L.drop x).take (y - x) = M := Option.some.inj hM
                       exact h3
        | 3, hq, hM => obtain rfl : s4 = z := Option.some.inj hq
                       obtain rfl : List.replicate u (blanks v b) = M := Option.some.inj hM
                       exact h4
        | 4, hq, hM => obtain rfl : s5 = z := Option.some.inj hq
                       obtain rfl : L.drop j = M := Option.some.inj hM
                       exact h5
        | q + 5, hq, hM => simp at hq) (by omega))
    rw [hfn] at CC
    rw [hFL] at CC ⊢
    obtain ⟨LO, hLO⟩ : ∃ LO, (L.drop i).take (x - i) = LO := ⟨_, rfl⟩
    rw [hLO] at C7 ⊢
    have hi0 : (0 : Int) ≤ (i : Int) := by omega
    have hj0 : (0 : Int) ≤ (j : Int) := by omega
    have hx0 : (0 : Int) ≤ (x : Int) := by omega
    have hy0 : (0 : Int) ≤ (y : Int) := by omega
    have hnz : (n : Int) ≤ 60 := by omega
    have hjz : (j : Int) ≤ 60 := by omega
    have hcz1 : (i : Int) ≤ (c : Int) := by omega
    have hcz2 : (j : Int) ≤ (n : Int) := by omega
    have hcz3 : (n : Int) ≤ (c : Int) := by omega
    have hcz4 : (j : Int) ≤ (c : Int) := by omega
    have hcz5 : (x : Int) ≤ (y : Int) := by omega
    have hcz6 : (y : Int) ≤ (c : Int) := by omega
    have hcz7 : (i : Int) ≤ (x : Int) := by omega
    have hcz8 : (x : Int) ≤ (c : Int) := by omega
    have hwx : IntKind.i64.wrap (x : Int) = (x : Int) := by rw [IntKind.wrap_i64]; omega
    have hwy : IntKind.i64.wrap (y : Int) = (y : Int) := by rw [IntKind.wrap_i64]; omega
    have hszz : (s : Int) ≤ 60 := by omega
    clear key hgE hrr hq CU hgood hrok hfl hfn hFL hd hu hdn hx hy hout hLO hs' hxi hud
    obtain ⟨hd1a, hd1b⟩ := hd1
    subst hV
    go_enter Tryd.func29, Tryd.ntmps29
    go_wp2_with fail
    refine CU1.out.mono ?_
    rintro e w1 ⟨rfl, b1⟩
    have K11 := Lib.hid (K1.out.below b1)
    have K21 := Lib.hid (K2.out.below b1)
    have B1 := Lib.hid (BV.out.trans (b1.mono BV.out.size))
    have p0 := K11.out.c0
    have a1 := cell_of_row w1 _ 1 _ _ _ (KA.out w1 b1)
    clear b1 CU1
    go_wp2_with fail
    refine (CB.out w1).mono ?_
    rintro e w2 ⟨p, q, rfl, hB, b2⟩
    have K12 := Lib.hid (K11.out.below b2)
    have K22 := Lib.hid (K21.out.below b2)
    have B2 := Lib.hid (B1.out.trans (b2.mono B1.out.size))
    have HB := Lib.hid hB
    have x2 := K12.out.c2
    have hlt := K22.out.lt
    clear b2 CB hB p0 a1
    have sB : ∀ {W W' : World}, Below W.heap.size W W' → (W.cell? ⟨w.heap.size, 2, none⟩ = some (.slice (some ⟨ab, ao, none⟩) n c) ∧ Aside (Below w2.heap.size w2 W)) → (W'.cell? ⟨w.heap.size, 2, none⟩ = some (.slice (some ⟨ab, ao, none⟩) n c) ∧ Aside (Below w2.heap.size w2 W')) := fun hb h => ⟨(K12.out.below (h.2.out.trans (hb.mono h.2.out.size))).c2, h.2.out.trans (hb.mono h.2.out.size)⟩
    have sA : ∀ {W : World} (o : Obj), (W.cell? ⟨w.heap.size, 2, none⟩ = some (.slice (some ⟨ab, ao, none⟩) n c) ∧ Aside (Below w2.heap.size w2 W)) → ((W.alloc o).cell? ⟨w.heap.size, 2, none⟩ = some (.slice (some ⟨ab, ao, none⟩) n c) ∧ Aside (Below w2.heap.size w2 (W.alloc o))) := fun o h => sB ((Below.refl _ _).alloc (Nat.le_refl _) o) h
    have hS : w2.drew.cell? ⟨w.heap.size, 2, none⟩ = some (.slice (some ⟨ab, ao, none⟩) n c) ∧ Aside (Below w2.heap.size w2 w2.drew) := ⟨x2, (Below.refl _ _).drew⟩
    have D1 := fun W (h : W.cell? ⟨w.heap.size, 2, none⟩ = some (.slice (some ⟨ab, ao, none⟩) n c) ∧ Aside (Below w2.heap.size w2 W)) => C1.out W (B2.out.trans (h.2.out.mono B2.out.size))
    have D2 := fun W (h : W.cell? ⟨w.heap.size, 2, none⟩ = some (.slice (some ⟨ab, ao, none⟩) n c) ∧ Aside (Below w2.heap.size w2 W)) => C2.out p q W (HB.out.below h.2.out)
    have D3 := fun W (h : W.cell? ⟨w.heap.size, 2, none⟩ = some (.slice (some ⟨ab, ao, none⟩) n c) ∧ Aside (Below w2.heap.size w2 W)) => C3.out W (B2.out.trans (h.2.out.mono B2.out.size))
    have D4 := fun W (h : W.cell? ⟨w.heap.size, 2, none⟩ = some (.slice (some ⟨ab, ao, none⟩) n c) ∧ Aside (Below w2.heap.size w2 W)) => C4.out p q W (HB.out.below h.2.out)
    have D5 := fun W (h : W.cell? ⟨w.heap.size, 2, none⟩ = some (.slice (some ⟨ab, ao, none⟩) n c) ∧ Aside (Below w2.heap.size w2 W)) => C5.out W (B2.out.trans (h.2.out.mono B2.out.size))
    clear C1 C2 C3 C4 C5
    go_wp2
    go_region_held3 (fun W => W.cell? ⟨w.heap.size, 2, none⟩ = some (.slice (some ⟨ab, ao, none⟩) n c) ∧ Aside (Below w2.heap.size w2 W))
      (first | assumption | (refine sA _ ?_; assumption))
      (first
        | (go_at_call 44; (with_reducible refine (D1 _ (by assumption)).mono ?_); rintro e' w3 ⟨g3, rfl, hG3⟩; have hs3 := sB hG3.bel (by assumption); have G3 := Lib.hid hG3; clear hG3 D1)
        | (go_at_call 55; (with_reducible refine (D2 _ (by assumption)).mono ?_); rintro e' w4 ⟨g4, rfl, hG4⟩; have hs4 := sB hG4.bel (by assumption); have G4 := Lib.hid hG4; clear hG4 D2)
        | (go_at_call 44; (with_reducible refine (D3 _ (by assumption)).mono ?_); rintro e' w5 ⟨g5, rfl, hG5⟩; have hs5 := sB hG5.bel (by assumption); have G5 := Lib.hid hG5; clear hG5 D3)
        | (go_at_call 55; (with_reducible refine (D4 _ (by assumption)).mono ?_); rintro e' w6 ⟨g6, rfl, hG6⟩; have hs6 := sB hG6.bel (by assumption); have G6 := Lib.hid hG6; clear hG6 D4)
        | (go_at_call 44; (with_reducible refine (D5 _ (by assumption)).mono ?_); rintro e' w7 ⟨g7, rfl, hG7⟩; have hs7 := sB hG7.bel (by assumption); have G7 := Lib.hid hG7; have bA := (Below.refl w7.heap.size w7).alloc (Nat.le_refl _) (.cells #[.slice (some ⟨g3, 0, none⟩) i i, .slice (some ⟨g4, 0, none⟩) dn dn, .slice (some ⟨g5, 0, none⟩) (y - x) (y - x), .slice (some ⟨g6, 0, none⟩) u u, .slice (some ⟨g7, 0, none⟩) (n - j) (n - j)] 22); have e7 := G7.out.bel.trans (bA.mono G7.out.bel.size); have e6 := G6.out.bel.trans (e7.mono G6.out.bel.size); have e5 := G5.out.bel.trans (e6.mono G5.out.bel.size); have e4 := G4.out.bel.trans (e5.mono G4.out.bel.size); have CX := Lib.hid (CC.out w7.heap.size _ _ _ _ _ _ (heap_alloc_new w7 _) (G3.out.prt e4) (G4.out.prt e5) (G5.out.prt e6) (G6.out.prt e7) (G7.out.prt bA)); have BX := Lib.hid (hs7.2.out.trans (bA.mono hs7.2.out.size)); clear hG7 bA e7 e6 e5 e4 D5)
        | (go_at_call 33; (with_reducible refine CX.out.mono ?_); rintro e' w8 ⟨A8, c8, rfl, hG8⟩; have hs8 := sB hG8.bel (by assumption); have G8 := Lib.hid (hG8.rebase BX.out); clear hG8))
    all_goals
      clear sB sA hS hs3 hs4 hs5 hs6 hs7 hs8 x2 CC CX G3 G4 G5 G6 G7
      have K18 := Lib.hid (K12.out.below G8.out.bel)
      have K28 := Lib.hid (K22.out.below G8.out.bel)
      have B8 := Lib.hid (B2.out.trans (G8.out.bel.mono B2.out.size))
      have p0 := K18.out.c0
      have p2 := K18.out.c2
      go_wp2
      go_region_law (first
        | (go_simp; refine (CO.out _ _ _ w8.drew).mono ?_; rintro e' w9 ⟨rfl, b9⟩; have D9 := Lib.hid ((Below.refl _ w8).drew.trans b9); clear b9; have y2 := (K18.out.below D9.out).c2; have B9 := Lib.hid (B8.out.trans (D9.out.mono B8.out.size)); have K29 := Lib.hid (K28.out.below D9.out); have r0 := K29.out.c0; have r1 := K29.out.c1; have r2 := K29.out.c2; have rf := K29.out.z)
        | (go_simp; refine (C7.out w9 B9.out).mono ?_; rintro e' w10 ⟨g10, rfl, hG10⟩; have G10 := Lib.hid hG10; have B10 := Lib.hid (B9.out.trans (hG10.bel.mono B9.out.size)); have K210 := Lib.hid (K29.out.below hG10.bel); clear hG10; have q0 := K210.out.c0; have q1 := K210.out.c1; have q2 := K210.out.c2; have qf := K210.out.z))
      all_goals
        go_wp2
        refine bodyPost_ret (res3 rfl _ _ _ _ _ _ rfl (K210.out.put (v : Int) (n : Int) A8 n c8)) rfl ?_
        have hl8 : w.heap.size + 1 + 1 < w9.heap.size := K29.out.lt
        exact ⟨_, _, _, _, _, _, rfl, ((((G8.out.below (D9.out.trans (G10.out.bel.mono D9.out.size))).gv.g3 K210.out hlt _ _ _).rebase B2.out)), ((G10.out.gv.g3 K210.out hl8 _ _ _).rebase B9.out), below_g3 B10.out (by omega) _ _ _⟩
  · rw [scrollR_bad hq]
    have CU1 := Lib.hid (CU.out (decide (0 ≤ tp ∧ tp < bt ∧ bt ≤ H)))
    generalize useE W H L (decide (0 ≤ tp ∧ tp < bt ∧ bt ≤ H)) = q at hq CU1 ⊢
    have hqb : (((q : Nat) : Int) != 0) = true := nat_ne hq
    clear CU
    subst hV
    rcases key with ⟨c1, c2, c3⟩ | c1 | ⟨c1, c2⟩ | ⟨c1, c2, c3⟩
    · rw [decide_eq_true ⟨c1, c2, c3⟩] at CU1
      go_enter Tryd.func29, Tryd.ntmps29
      go_wp2_with fail
      refine CU1.out.mono ?_
      rintro e w1 ⟨rfl, b1⟩
      have K21 := Lib.hid (K2.out.below b1)
      have B1 := Lib.hid (BV.out.trans (b1.mono BV.out.size))
      have q0 := K21.out.c0
      have q1 := K21.out.c1
      have q2 := K21.out.c2
      have qf := K21.out.z
      clear b1 CU1
      go_wp2
      refine bodyPost_ret (res3 rfl _ _ _ _ _ _ rfl (K21.out.put 0 0 none 0 0)) rfl ?_
      exact ⟨none, 0, 0, none, 0, 0, rfl, Gv.nil _ _, Gv.nil _ _, below_g3 B1.out (by omega) _ _ _⟩
    · rw [decide_eq_false (fun e => c1 e.1)] at CU1
      go_enter Tryd.func29, Tryd.ntmps29
      go_wp2_with fail
      refine CU1.out.mono ?_
      rintro e w1 ⟨rfl, b1⟩
      have K21 := Lib.hid (K2.out.below b1)
      have B1 := Lib.hid (BV.out.trans (b1.mono BV.out.size))
      have q0 := K21.out.c0
      have q1 := K21.out.c1
      have q2 := K21.out.c2
      have qf := K21.out.z
      clear b1 CU1
      go_wp2
      refine bodyPost_ret (res3 rfl _ _ _ _ _ _ rfl (K21.out.put 0 0 none 0 0)) rfl ?_
      exact ⟨none, 0, 0, none, 0, 0, rfl, Gv.nil _ _, Gv.nil _ _, below_g3 B1.out (by omega) _ _ _⟩
    · rw [decide_eq_false (fun e => c2 e.2.1)] at CU1
      go_enter Tryd.func29, Tryd.ntmps29
      go_wp2_with fail
      refine CU1.out.mono ?_
      rintro e w1 ⟨rfl, b1⟩
      have K21 := Lib.hid (K2.out.below b1)
      have B1 := Lib.hid (BV.out.trans (b1.mono BV.out.size))
      have q0 := K21.out.c0
      have q1 := K21.out.c1
      have q2 := K21.out.c2
      have qf := K21.out.z
      clear b1 CU1
      go_wp2
      refine bodyPost_ret (res3 rfl _ _ _ _ _ _ rfl (K21.out.put 0 0 none 0 0)) rfl ?_
      exact ⟨none, 0, 0, none, 0, 0, rfl, Gv.nil _ _, Gv.nil _ _, below_g3 B1.out (by omega) _ _ _⟩
    · rw [decide_eq_false (fun e => c3 e.2.2)] at CU1
      go_enter Tryd.func29, Tryd.ntmps29
      go_wp2_with fail
      refine CU1.out.mono ?_
      rintro e w1 ⟨rfl, b1⟩
      have K21 := Lib.hid (K2.out.below b1)
      have B1 := Lib.hid (BV.out.trans (b1.mono BV.out.size))
      have q0 := K21.out.c0
      have q1 := K21.out.c1
      have q2 := K21.out.c2
      have qf := K21.out.z
      clear b1 CU1
      go_wp2
      refine bodyPost_ret (res3 rfl _ _ _ _ _ _ rfl (K21.out.put 0 0 none 0 0)) rfl ?_
      exact ⟨none, 0, 0, none, 0, 0, rfl, Gv.nil _ _, Gv.nil _ _, below_g3 B1.out (by omega) _ _ _⟩

end Go.Proofs.YtgmgnlgolhjhmaaDoor
