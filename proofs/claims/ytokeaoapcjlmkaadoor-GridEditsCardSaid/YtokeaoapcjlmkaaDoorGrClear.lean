/-
  What Clear of grid returns.
-/
import Derived.Test.YtokeaoapcjlmkaaDoorGrThree
import Derived.Deep.RegionHeld3
namespace Go.Proofs.YtokeaoapcjlmkaaDoor
open Go.RowKit Go.Shelf Cr Gd

set_option maxHeartbeats 2000000 in
set_option maxRecDepth 100000 in
theorem gclear_any (W H : Int) (A : Option Addr) (n c : Nat) (L : List (List C)) (fr tq f b g : Int) (w : World) (hr : RdR w A n L) (hnc : n ≤ c) (hmax : n ≤ 9223372036854775807) (hs : SmR L) (hT : Lib.Utf8Tabs 0 1 w) :
    Calls Tryd.prog 23 #[.agg #[.int .i64 W, .int .i64 H, .slice A n c], .int .i64 fr, .int .i64 tq, .agg #[.int .i64 f, .int .i64 b, .int .i64 g]] w fun e w' => Out2 w (clearR W H L fr tq b) e w' := by
  obtain ⟨V, hV⟩ : ∃ V, ((w.alloc (.cells #[.int .i64 W, .int .i64 H, .slice A n c] 24)).alloc (.cells #[.int .i64 f, .int .i64 b, .int .i64 g] 34)).alloc (.cells #[.int .i64 0, .int .i64 0, .slice none 0 0] 24) = V := ⟨_, rfl⟩
  obtain ⟨k1, kA, k2, bV⟩ := three_in w W H A n c f b g
  rw [hV] at k1 kA k2 bV
  have K1 := Lib.hid k1
  have KA := Lib.hid (fun U (h : Below V.heap.size V U) => (h.block _ (Array.getElem?_eq_some_iff.1 kA).1).trans kA)
  have K2 := Lib.hid k2
  have BV := Lib.hid bV
  have HR := Lib.hid (fun U (h : Below w.heap.size w U) => hr.below h)
  have CU := Lib.hid (fun r => checkUse_any W H A n c L r V (hr.below bV) hmax hs (Utf8Tabs_below hT bV))
  have key : (0 ≤ fr ∧ fr ≤ tq ∧ tq ≤ H) ∨ ¬ 0 ≤ fr ∨ (0 ≤ fr ∧ ¬ fr ≤ tq) ∨ (0 ≤ fr ∧ fr ≤ tq ∧ ¬ tq ≤ H) := by omega
  clear hr hT k1 k2 bV kA
  by_cases hq : useE W H L (decide (0 ≤ fr ∧ fr ≤ tq ∧ tq ≤ H)) = 0
  · rw [clearR_ok hq]
    obtain ⟨hgE, hrr⟩ := useE_zero hq
    have hrow := of_decide_eq_true hrr
    obtain ⟨v, h, rfl, rfl, hgood⟩ := gE_good hgE
    have CU1 := Lib.hid (CU.out true)
    rw [hrr] at hq
    rw [hq] at CU1
    obtain ⟨r1, r2, r3⟩ := hrow
    obtain ⟨i, rfl⟩ : ∃ i : Nat, fr = (i : Int) := ⟨fr.toNat, by omega⟩
    obtain ⟨j, rfl⟩ : ∃ j : Nat, tq = (j : Int) := ⟨tq.toNat, by omega⟩
    rw [Int.toNat_natCast, Int.toNat_natCast, Int.toNat_natCast]
    have hnh : n = h := by have := (HR.out w (Below.refl _ _)).1; have := hgood.2.2.2.2.1; omega
    subst hnh
    have hLn : L.length = n := hgood.2.2.2.2.1
    have hn60 : n ≤ 60 := hgood.2.2.2.1
    have hn1 : 1 ≤ n := hgood.2.2.1
    have hv : 1 ≤ v ∧ v ≤ 132 := ⟨hgood.1, hgood.2.1⟩
    have hij : i ≤ j := by omega
    have hjn : j ≤ n := by omega
    obtain ⟨m, hm⟩ : ∃ m, j - i = m := ⟨_, rfl⟩
    have hsub : (j : Int) - (i : Int) = (m : Int) := by omega
    have hwm : IntKind.i64.wrap (m : Int) = (m : Int) := by rw [IntKind.wrap_i64]; omega
    have hrok := rows_ok hgood
    obtain ⟨ab, ao, rfl⟩ := (HR.out w (Below.refl _ _)).addr (by omega)
    obtain ⟨R2, hR2⟩ : ∃ R2, (if c = j then some ⟨ab, ao, none⟩ else some (⟨ab, ao + j, none⟩ : Addr)) = R2 := ⟨_, rfl⟩
    have CB := Lib.hid (fun U => blankRows_any (v : Int) b U)
    have C1 := Lib.hid (fun U (h : Below w.heap.size w U) => copyRows_any (some ⟨ab, ao, none⟩) i c (L.take i) (by omega) U ((HR.out U h).head (by omega)) (rows_take hrok _))
    have C2 := Lib.hid (fun p q U (h : Bl U p q (v : Int) b) => blankFn_any p q v b m (by omega) hv U h)
    have C3 := Lib.hid (fun U (h : Below w.heap.size w U) => copyRows_any R2 (n - j) (c - j) (L.drop j) (by omega) U ((HR.out U h).tail hjn hnc hR2) (rows_drop hrok _))
    have CO := Lib.hid (fun A n c U => gridOf_any (v : Int) A n c U)
    have hfl : ([L.take i, List.replicate m (blanks v b), L.drop j] : List (List (List C))).flatten = clr L i j (blanks v b) := by
      simp [clr, hm]
    have hfn : ([L.take i, List.replicate m (blanks v b), L.drop j] : List (List (List C))).flatten.length = n := by
      rw [hfl]; exact (hgood.clr b hij hjn).2.2.2.2.1
    rw [← hfl]
    obtain ⟨FL, hFL⟩ : ∃ FL, ([L.take i, List.replicate m (blanks v b), L.drop j] : List (List (List C))).flatten = FL := ⟨_, rfl⟩
    have CC := Lib.hid (fun (p : Nat) (s1 s2 s3 : Value) (U : World) (hp : U.heap[p]? = some (.cells #[s1, s2, s3] 22)) (h1 : Prt U s1 (L.take i)) (h2 : Prt U s2 (List.replicate m (blanks v b))) (h3 : Prt U s3 (L.drop j)) =>
      concat_any p 3 [s1, s2, s3] [L.take i, List.replicate m (blanks v b), L.drop j] U rfl rfl (by decide) hp (fun q x M hq hM => by
        match q, hq, hM with
        | 0, hq, hM => obtain rfl : s1 = x := by simpa using hq
                       obtain rfl : L.take i = M := by simpa using hM
                       exact h1
        | 1, hq, hM => obtain rfl : s2 = x := by simpa using hq
                       obtain rfl : List.replicate m (blanks v b) = M := by simpa using hM
                       exact h2
        | 2, hq, hM => obtain rfl : s3 = x := by simpa using hq
                       obtain rfl : L.drop j = M := by simpa using hM
                       exact h3
        | q + 3, hq, hM => simp at hq) (by omega))
    rw [hfn] at CC
    rw [hFL] at CC ⊢
    have hi0 : (0 : Int) ≤ (i : Int) := by omega
    have hj0 : (0 : Int) ≤ (j : Int) := by omega
    have hnz : (n : Int) ≤ 60 := by omega
    have hcz1 : (i : Int) ≤ (c : Int) := by omega
    have hcz2 : (j : Int) ≤ (n : Int) := by omega
    have hcz3 : (n : Int) ≤ (c : Int) := by omega
    have hcz4 : (j : Int) ≤ (c : Int) := by omega
    clear key hgE hrr hq CU hgood hrok hfl hfn hFL hm
    subst hV
    go_enter Tryd.func23, Tryd.ntmps23
    go_wp2_with fail
    refine CU1.out.mono ?_
    rintro e w1 ⟨rfl, b1⟩
    have K11 := Lib.hid (K1.out.below b1)
    have K21 := Lib.hid (K2.out.below b1)
    have B1 := Lib.hid (BV.out.trans (b1.mono BV.out.size))
    have p0 := K11.out.c0
    have a1 := cell_of_row w1 _ 1 _ _ _ (KA.out w1 b1)
    clear b1 CU1
    go_wp2_with fail
    refine (CB.out w1).mono ?_
    rintro e w2 ⟨p, q, rfl, hB, b2⟩
    have K12 := Lib.hid (K11.out.below b2)
    have K22 := Lib.hid (K21.out.below b2)
    have B2 := Lib.hid (B1.out.trans (b2.mono B1.out.size))
    have HB := Lib.hid hB
    have x2 := K12.out.c2
    have hlt := K22.out.lt
    clear b2 CB hB p0 a1
    have sB : ∀ {W W' : World}, Below W.heap.size W W' → (W.cell? ⟨w.heap.size, 2, none⟩ = some (.slice (some ⟨ab, ao, none⟩) n c) ∧ Aside (Below w2.heap.size w2 W)) → (W'.cell? ⟨w.heap.size, 2, none⟩ = some (.slice (some ⟨ab, ao, none⟩) n c) ∧ Aside (Below w2.heap.size w2 W')) := fun hb h => ⟨(K12.out.below (h.2.out.trans (hb.mono h.2.out.size))).c2, h.2.out.trans (hb.mono h.2.out.size)⟩
    have sA : ∀ {W : World} (o : Obj), (W.cell? ⟨w.heap.size, 2, none⟩ = some (.slice (some ⟨ab, ao, none⟩) n c) ∧ Aside (Below w2.heap.size w2 W)) → ((W.alloc o).cell? ⟨w.heap.size, 2, none⟩ = some (.slice (some ⟨ab, ao, none⟩) n c) ∧ Aside (Below w2.heap.size w2 (W.alloc o))) := fun o h => sB ((Below.refl _ _).alloc (Nat.le_refl _) o) h
    have hS : w2.drew.cell? ⟨w.heap.size, 2, none⟩ = some (.slice (some ⟨ab, ao, none⟩) n c) ∧ Aside (Below w2.heap.size w2 w2.drew) := ⟨x2, (Below.refl _ _).drew⟩
    have D1 := fun W (h : W.cell? ⟨w.heap.size, 2, none⟩ = some (.slice (some ⟨ab, ao, none⟩) n c) ∧ Aside (Below w2.heap.size w2 W)) => C1.out W (B2.out.trans (h.2.out.mono B2.out.size))
    have D2 := fun W (h : W.cell? ⟨w.heap.size, 2, none⟩ = some (.slice (some ⟨ab, ao, none⟩) n c) ∧ Aside (Below w2.heap.size w2 W)) => C2.out p q W (HB.out.below h.2.out)
    have D3 := fun W (h : W.cell? ⟨w.heap.size, 2, none⟩ = some (.slice (some ⟨ab, ao, none⟩) n c) ∧ Aside (Below w2.heap.size w2 W)) => C3.out W (B2.out.trans (h.2.out.mono B2.out.size))
    clear C1 C2 C3
    go_wp2
    go_region_held3 (fun W => W.cell? ⟨w.heap.size, 2, none⟩ = some (.slice (some ⟨ab, ao, none⟩) n c) ∧ Aside (Below w2.heap.size w2 W))
      (first | assumption | (refine sA _ ?_; assumption))
      (first
        | (go_at_call 41; (with_reducible refine (D1 _ (by assumption)).mono ?_); rintro e' w3 ⟨g3, rfl, hG3⟩; have hs3 := sB hG3.bel (by assumption); have G3 := Lib.hid hG3; clear hG3)
        | (go_at_call 47; (with_reducible refine (D2 _ (by assumption)).mono ?_); rintro e' w4 ⟨g4, rfl, hG4⟩; have hs4 := sB hG4.bel (by assumption); have G4 := Lib.hid hG4; clear hG4)
        | (go_at_call 41; (with_reducible refine (D3 _ (by assumption)).mono ?_); rintro e' w5 ⟨g5, rfl, hG5⟩; have hs5 := sB hG5.bel (by assumption); have G5 := Lib.hid hG5; have bA := (Below.refl w5.heap.size w5).alloc (Nat.le_refl _) (.cells #[.slice (some ⟨g3, 0, none⟩) i i, .slice (some ⟨g4, 0, none⟩) m m, .slice (some ⟨g5, 0, none⟩) (n - j) (n - j)] 22); have CX := Lib.hid (CC.out w5.heap.size _ _ _ _ (heap_alloc_new w5 _) (G3.out.prt (((G4.out.bel).trans (G5.out.bel.mono G4.out.bel.size)).trans (bA.mono ((G4.out.bel).trans (G5.out.bel.mono G4.out.bel.size)).size))) (G4.out.prt (G5.out.bel.trans (bA.mono G5.out.bel.size))) (G5.out.prt bA)); have BX := Lib.hid (hs5.2.out.trans (bA.mono hs5.2.out.size)); clear hG5 bA)
        | (go_at_call 40; (with_reducible refine CX.out.mono ?_); rintro e' w6 ⟨A6, c6, rfl, hG6⟩; have hs6 := sB hG6.bel (by assumption); have G6 := Lib.hid (hG6.rebase BX.out); clear hG6))
    all_goals
      clear sB sA hS D1 D2 D3 hs3 hs4 hs5 hs6 x2
      have K16 := Lib.hid (K12.out.below G6.out.bel)
      have K26 := Lib.hid (K22.out.below G6.out.bel)
      have B6 := Lib.hid (B2.out.trans (G6.out.bel.mono B2.out.size))
      have p0 := K16.out.c0
      go_wp2_with fail
      refine (CO.out _ _ _ _).mono ?_
      rintro e w7 ⟨rfl, b7⟩
      have K27 := Lib.hid (K26.out.below b7)
      have G7 := Lib.hid (G6.out.below b7)
      have B7 := Lib.hid (B6.out.trans (b7.mono B6.out.size))
      have q0 := K27.out.c0
      have q1 := K27.out.c1
      have q2 := K27.out.c2
      have qf := K27.out.z
      clear b7 p0
      go_wp2
      refine bodyPost_ret (res2 rfl _ _ _ _ _ _ rfl (K27.out.put (v : Int) (n : Int) A6 n c6)) rfl ?_
      exact ⟨_, _, _, rfl, ((G7.out.gv.g3 K27.out hlt _ _ _).rebase B2.out), below_g3 B7.out (by omega) _ _ _⟩
  · rw [clearR_bad hq]
    have CU1 := Lib.hid (CU.out (decide (0 ≤ fr ∧ fr ≤ tq ∧ tq ≤ H)))
    generalize useE W H L (decide (0 ≤ fr ∧ fr ≤ tq ∧ tq ≤ H)) = q at hq CU1 ⊢
    have hqb : (((q : Nat) : Int) != 0) = true := nat_ne hq
    clear CU
    subst hV
    rcases key with ⟨c1, c2, c3⟩ | c1 | ⟨c1, c2⟩ | ⟨c1, c2, c3⟩
    · rw [decide_eq_true ⟨c1, c2, c3⟩] at CU1
      go_enter Tryd.func23, Tryd.ntmps23
      go_wp2_with fail
      refine CU1.out.mono ?_
      rintro e w1 ⟨rfl, b1⟩
      have K21 := Lib.hid (K2.out.below b1)
      have B1 := Lib.hid (BV.out.trans (b1.mono BV.out.size))
      have q0 := K21.out.c0
      have q1 := K21.out.c1
      have q2 := K21.out.c2
      have qf := K21.out.z
      clear b1 CU1
      go_wp2
      refine bodyPost_ret (res2 rfl _ _ _ _ _ _ rfl (K21.out.put 0 0 none 0 0)) rfl ?_
      exact ⟨none, 0, 0, rfl, Gv.nil _ _, below_g3 B1.out (by omega) _ _ _⟩
    · rw [decide_eq_false (fun e => c1 e.1)] at CU1
      go_enter Tryd.func23, Tryd.ntmps23
      go_wp2_with fail
      refine CU1.out.mono ?_
      rintro e w1 ⟨rfl, b1⟩
      have K21 := Lib.hid (K2.out.below b1)
      have B1 := Lib.hid (BV.out.trans (b1.mono BV.out.size))
      have q0 := K21.out.c0
      have q1 := K21.out.c1
      have q2 := K21.out.c2
      have qf := K21.out.z
      clear b1 CU1
      go_wp2
      refine bodyPost_ret (res2 rfl _ _ _ _ _ _ rfl (K21.out.put 0 0 none 0 0)) rfl ?_
      exact ⟨none, 0, 0, rfl, Gv.nil _ _, below_g3 B1.out (by omega) _ _ _⟩
    · rw [decide_eq_false (fun e => c2 e.2.1)] at CU1
      go_enter Tryd.func23, Tryd.ntmps23
      go_wp2_with fail
      refine CU1.out.mono ?_
      rintro e w1 ⟨rfl, b1⟩
      have K21 := Lib.hid (K2.out.below b1)
      have B1 := Lib.hid (BV.out.trans (b1.mono BV.out.size))
      have q0 := K21.out.c0
      have q1 := K21.out.c1
      have q2 := K21.out.c2
      have qf := K21.out.z
      clear b1 CU1
      go_wp2
      refine bodyPost_ret (res2 rfl _ _ _ _ _ _ rfl (K21.out.put 0 0 none 0 0)) rfl ?_
      exact ⟨none, 0, 0, rfl, Gv.nil _ _, below_g3 B1.out (by omega) _ _ _⟩
    · rw [decide_eq_false (fun e => c3 e.2.2)] at CU1
      go_enter Tryd.func23, Tryd.ntmps23
      go_wp2_with fail
      refine CU1.out.mono ?_
      rintro e w1 ⟨rfl, b1⟩
      have K21 := Lib.hid (K2.out.below b1)
      have B1 := Lib.hid (BV.out.trans (b1.mono BV.out.size))
      have q0 := K21.out.c0
      have q1 := K21.out.c1
      have q2 := K21.out.c2
      have qf := K21.out.z
      clear b1 CU1
      go_wp2
      refine bodyPost_ret (res2 rfl _ _ _ _ _ _ rfl (K21.out.put 0 0 none 0 0)) rfl ?_
      exact ⟨none, 0, 0, rfl, Gv.nil _ _, below_g3 B1.out (by omega) _ _ _⟩

end Go.Proofs.YtokeaoapcjlmkaaDoor
