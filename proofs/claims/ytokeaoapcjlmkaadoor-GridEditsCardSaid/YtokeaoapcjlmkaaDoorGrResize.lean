/-
  What Resize of grid returns.
-/
import Derived.Test.YtokeaoapcjlmkaaDoorGrThree
namespace Go.Proofs.YtokeaoapcjlmkaaDoor
open Go.RowKit Go.Shelf Cr Gd

theorem resizeR_bad {W H : Int} {L : List (List C)} {x y : Int} (h : useE W H L (decide (sizeOk x y)) ≠ 0) : resizeR W H L x y = bad (useE W H L (decide (sizeOk x y))) := by
  unfold resizeR useE at *
  split
  · rfl
  · rename_i h1
    rw [if_neg h1] at h
    split
    · rename_i h2; rw [decide_eq_false h2, if_neg (by decide)]
    · rename_i h2
      rw [decide_eq_true (Decidable.not_not.1 h2), if_pos rfl] at h
      exact absurd rfl h
theorem resizeR_ok {W H : Int} {L : List (List C)} {x y : Int} (h : useE W H L (decide (sizeOk x y)) = 0) : resizeR W H L x y = ⟨0, x, y, rsz L x.toNat y.toNat, []⟩ := by
  obtain ⟨h1, h2⟩ := useE_zero h
  unfold resizeR
  rw [if_neg (by omega), if_neg (by have := of_decide_eq_true h2; exact fun e => e this)]

set_option maxHeartbeats 2000000 in
set_option maxRecDepth 100000 in
theorem gresize_any (W H : Int) (A : Option Addr) (n c : Nat) (L : List (List C)) (x y : Int) (w : World) (hr : RdR w A n L) (hnc : n ≤ c) (hmax : n ≤ 9223372036854775807) (hs : SmR L) (hT : Lib.Utf8Tabs 0 1 w) :
    Calls Tryd.prog 25 #[.agg #[.int .i64 W, .int .i64 H, .slice A n c], .int .i64 x, .int .i64 y] w fun e w' => Out2 w (resizeR W H L x y) e w' := by
  obtain ⟨V, hV⟩ : ∃ V, (w.alloc (.cells #[.int .i64 W, .int .i64 H, .slice A n c] 24)).alloc (.cells #[.int .i64 0, .int .i64 0, .slice none 0 0] 24) = V := ⟨_, rfl⟩
  obtain ⟨k1, k2, bV⟩ := two_in w W H A n c
  rw [hV] at k1 k2 bV
  have K1 := Lib.hid k1
  have K2 := Lib.hid k2
  have BV := Lib.hid bV
  have HR := Lib.hid (fun U (h : Below w.heap.size w U) => hr.below h)
  have HT := Lib.hid (fun U (h : Below w.heap.size w U) => Utf8Tabs_below hT h)
  have CI := Lib.hid (fun U => isSize_any x y U)
  obtain ⟨r, hrr⟩ : ∃ r, decide (sizeOk x y) = r := ⟨_, rfl⟩
  have CU := Lib.hid (checkUse_any W H A n c L r V.drew (hr.below bV.drew) hmax hs (Utf8Tabs_below hT bV.drew))
  rw [hrr] at CI
  clear hr hT k1 k2 bV
  by_cases hq : useE W H L (decide (sizeOk x y)) = 0
  · rw [resizeR_ok hq]
    rw [hrr] at hq
    rw [hq] at CU
    obtain ⟨hgE, hrt⟩ := useE_zero hq
    rw [hrt] at hrr
    obtain ⟨a1, a2, a3, a4⟩ := of_decide_eq_true hrr
    obtain ⟨v, h, rfl, rfl, hgood⟩ := gE_good hgE
    obtain ⟨i, rfl⟩ : ∃ i : Nat, x = (i : Int) := ⟨x.toNat, by omega⟩
    obtain ⟨j, rfl⟩ : ∃ j : Nat, y = (j : Int) := ⟨y.toNat, by omega⟩
    rw [Int.toNat_natCast, Int.toNat_natCast]
    have hnh : n = h := by have := (HR.out w (Below.refl _ _)).1; have := hgood.2.2.2.2.1; omega
    subst hnh
    have hLn : L.length = n := hgood.2.2.2.2.1
    have hn60 : n ≤ 60 := hgood.2.2.2.1
    have hn1 : 1 ≤ n := hgood.2.2.1
    have hi : 1 ≤ i ∧ i ≤ 132 := by omega
    obtain ⟨k, hk⟩ : ∃ k, min j n = k := ⟨_, rfl⟩
    have hmin : min (j : Int) (n : Int) = (k : Int) := by omega
    obtain ⟨m, hm⟩ : ∃ m, j - k = m := ⟨_, rfl⟩
    have hsub : (j : Int) - (k : Int) = (m : Int) := by omega
    have hwm : IntKind.i64.wrap (m : Int) = (m : Int) := by rw [IntKind.wrap_i64]; omega
    obtain ⟨ab, ao, rfl⟩ := (HR.out w (Below.refl _ _)).addr (by omega)
    have hkn : k ≤ n := by omega
    have CB := Lib.hid (fun U => blankRows_any (i : Int) (-1) U)
    have C1 := Lib.hid (fun U (h : Below w.heap.size w U) => fitRows_any (some ⟨ab, ao, none⟩) k c (L.take k) i hi (by omega) U ((HR.out U h).head hkn) (fun l hl => ⟨hgood.chk (List.mem_of_mem_take hl), hs l (List.mem_of_mem_take hl)⟩) (HT.out U h))
    have C2 := Lib.hid (fun p q U (h : Bl U p q (i : Int) (-1)) => blankFn_any p q i (-1) m (by omega) hi U h)
    have CO := Lib.hid (fun A n c U => gridOf_any (i : Int) A n c U)
    have hfl : ([(L.take k).map (fun l => fit l i), List.replicate m (blanks i (-1))] : List (List (List C))).flatten = rsz L i j := by
      simp [rsz, hm, hk, hLn]
    have hfn : ([(L.take k).map (fun l => fit l i), List.replicate m (blanks i (-1))] : List (List (List C))).flatten.length = j := by
      rw [hfl, rsz_length]
    rw [← hfl]
    obtain ⟨FL, hFL⟩ : ∃ FL, ([(L.take k).map (fun l => fit l i), List.replicate m (blanks i (-1))] : List (List (List C))).flatten = FL := ⟨_, rfl⟩
    have CC := Lib.hid (fun (p : Nat) (s1 s2 : Value) (U : World) (hp : U.heap[p]? = some (.cells #[s1, s2] 22)) (h1 : Prt U s1 ((L.take k).map (fun l => fit l i))) (h2 : Prt U s2 (List.replicate m (blanks i (-1)))) =>
      concat_any p 2 [s1, s2] [(L.take k).map (fun l => fit l i), List.replicate m (blanks i (-1))] U rfl rfl (by decide) hp (fun q x M hq hM => by
        match q, hq, hM with
        | 0, hq, hM => obtain rfl : s1 = x := by simpa using hq
                       obtain rfl : (L.take k).map (fun l => fit l i) = M := Option.some.inj hM
                       exact h1
        | 1, hq, hM => obtain rfl : s2 = x := by simpa using hq
                       obtain rfl : List.replicate m (blanks i (-1)) = M := Option.some.inj hM
                       exact h2
        | q + 2, hq, hM => simp at hq) (by omega))
    rw [hfn] at CC
    rw [hFL] at CC ⊢
    have hk0 : (0 : Int) ≤ (k : Int) := by omega
    have hnz : (n : Int) ≤ 60 := by omega
    have hjz : (j : Int) ≤ 60 := by omega
    have hcz1 : (k : Int) ≤ (c : Int) := by omega
    have hcz2 : (k : Int) ≤ (n : Int) := by omega
    have hcz3 : (n : Int) ≤ (c : Int) := by omega
    subst hrt
    have x0 := (K1.out.below (Below.refl _ _).drew).c0
    have x1 := (K1.out.below (Below.refl _ _).drew).c1
    have x2 := (K1.out.below (Below.refl _ _).drew).c2
    clear hgE hrr hq hgood hfl hfn hFL hm hk a1 a2 a3 a4
    subst hV
    go_enter Tryd.func25, Tryd.ntmps25
    go_wp2
    go_region_law (first
      | (go_simp; refine (CI.out _).mono ?_; rintro e' w0 ⟨rfl, rfl⟩)
      | (go_simp; refine CU.out.mono ?_; rintro e' w1 ⟨rfl, b1⟩; have D1 := Lib.hid b1; clear b1))
    all_goals
      have K11 := Lib.hid ((K1.out.below (Below.refl _ _).drew).below D1.out)
      have K21 := Lib.hid ((K2.out.below (Below.refl _ _).drew).below D1.out)
      have B1 := Lib.hid (BV.out.drew.trans (D1.out.mono BV.out.drew.size))
      have p1 := K11.out.c1
      clear x0 x1 x2
      go_wp2_with fail
      refine (CB.out w1).mono ?_
      rintro e w2 ⟨p, q, rfl, hB, b2⟩
      have K12 := Lib.hid (K11.out.below b2)
      have K22 := Lib.hid (K21.out.below b2)
      have B2 := Lib.hid (B1.out.trans (b2.mono B1.out.size))
      have HB := Lib.hid hB
      have x2 := K12.out.c2
      have hlt := K22.out.lt
      clear b2 hB p1
      go_wp2_with fail
      refine (C1.out w2 B2.out).mono ?_
      rintro e w3 ⟨g3, rfl, hG3⟩
      have K23 := Lib.hid (K22.out.below hG3.bel)
      have G3 := Lib.hid hG3
      have HB3 := Lib.hid (HB.out.below hG3.bel)
      clear hG3 x2
      go_wp2_with fail
      refine (C2.out p q w3 HB3.out).mono ?_
      rintro e w4 ⟨g4, rfl, hG4⟩
      have G4 := Lib.hid hG4
      have bA := (Below.refl w4.heap.size w4).alloc (Nat.le_refl _) (.cells #[.slice (some ⟨g3, 0, none⟩) k k, .slice (some ⟨g4, 0, none⟩) m m] 22)
      have CX := Lib.hid (CC.out w4.heap.size _ _ _ (heap_alloc_new w4 _) (G3.out.prt (G4.out.bel.trans (bA.mono G4.out.bel.size))) (G4.out.prt bA))
      have BX := Lib.hid ((G3.out.bel.trans (G4.out.bel.mono G3.out.bel.size)).trans (bA.mono (G3.out.bel.trans (G4.out.bel.mono G3.out.bel.size)).size))
      clear hG4 bA
      go_wp2_with fail
      refine CX.out.mono ?_
      rintro e w5 ⟨A5, c5, rfl, hG5⟩
      have G5 := Lib.hid (hG5.rebase BX.out)
      have K25 := Lib.hid (K22.out.below G5.out.bel)
      have B5 := Lib.hid (B2.out.trans (G5.out.bel.mono B2.out.size))
      clear hG5
      go_wp2_with fail
      refine (CO.out _ _ _ _).mono ?_
      rintro e w7 ⟨rfl, b7⟩
      have K27 := Lib.hid (K25.out.below b7)
      have G7 := Lib.hid (G5.out.below b7)
      have B7 := Lib.hid (B5.out.trans (b7.mono B5.out.size))
      have q0 := K27.out.c0
      have q1 := K27.out.c1
      have q2 := K27.out.c2
      have qf := K27.out.z
      clear b7
      go_wp2
      refine bodyPost_ret (res2 rfl _ _ _ _ _ _ rfl (K27.out.put (i : Int) (j : Int) A5 j c5)) rfl ?_
      exact ⟨_, _, _, rfl, ((G7.out.gv.g3 K27.out hlt _ _ _).rebase B2.out), below_g3 B7.out (by omega) _ _ _⟩
  · rw [resizeR_bad hq]
    rw [hrr] at hq ⊢
    generalize useE W H L r = q at hq CU ⊢
    have hqb : (((q : Nat) : Int) != 0) = true := nat_ne hq
    have x0 := (K1.out.below (Below.refl _ _).drew).c0
    have x1 := (K1.out.below (Below.refl _ _).drew).c1
    have x2 := (K1.out.below (Below.refl _ _).drew).c2
    clear hrr
    subst hV
    go_enter Tryd.func25, Tryd.ntmps25
    go_wp2
    go_region_law (first
      | (go_simp; refine (CI.out _).mono ?_; rintro e' w0 ⟨rfl, rfl⟩)
      | (go_simp; refine CU.out.mono ?_; rintro e' w1 ⟨rfl, b1⟩; have D1 := Lib.hid b1; clear b1))
    all_goals
      have K21 := Lib.hid ((K2.out.below (Below.refl _ _).drew).below D1.out)
      have B1 := Lib.hid (BV.out.drew.trans (D1.out.mono BV.out.drew.size))
      have q0 := K21.out.c0
      have q1 := K21.out.c1
      have q2 := K21.out.c2
      have qf := K21.out.z
      clear x0 x1 x2
      go_wp2
      refine bodyPost_ret (res2 rfl _ _ _ _ _ _ rfl (K21.out.put 0 0 none 0 0)) rfl ?_
      exact ⟨none, 0, 0, rfl, Gv.nil _ _, below_g3 B1.out (by omega) _ _ _⟩

end Go.Proofs.YtokeaoapcjlmkaaDoor
