/-
  What Set and Resize of grid return.
-/
import Derived.Test.YtokeaoapcjlmkaaDoorGrEnd
namespace Go.Proofs.YtokeaoapcjlmkaaDoor
open Go.RowKit Go.Shelf Cr Gd

/-- The world behind the entry of a function with a grid and a result grid: the grid lies in the block w.heap.size, the result in the next one. -/
theorem two_in (w : World) (W H : Int) (A : Option Addr) (n c : Nat) :
    Kg ((w.alloc (.cells #[.int .i64 W, .int .i64 H, .slice A n c] 24)).alloc (.cells #[.int .i64 0, .int .i64 0, .slice none 0 0] 24)) w.heap.size W H A n c ∧
    Kg ((w.alloc (.cells #[.int .i64 W, .int .i64 H, .slice A n c] 24)).alloc (.cells #[.int .i64 0, .int .i64 0, .slice none 0 0] 24)) (w.heap.size + 1) 0 0 none 0 0 ∧
    Below w.heap.size w ((w.alloc (.cells #[.int .i64 W, .int .i64 H, .slice A n c] 24)).alloc (.cells #[.int .i64 0, .int .i64 0, .slice none 0 0] 24)) := by
  have h1 := Kg.new w W H A n c
  have h2 := Kg.new (w.alloc (.cells #[.int .i64 W, .int .i64 H, .slice A n c] 24)) 0 0 none 0 0
  rw [show (w.alloc (.cells #[.int .i64 W, .int .i64 H, .slice A n c] 24)).heap.size = w.heap.size + 1 by simp] at h2
  have b1 := (Below.refl w.heap.size w).alloc (Nat.le_refl _) (.cells #[.int .i64 W, .int .i64 H, .slice A n c] 24)
  exact ⟨h1.below ((Below.refl _ _).alloc (Nat.le_refl _) _), h2, b1.alloc b1.size _⟩

theorem useE_zero {W H : Int} {L : List (List C)} {r : Bool} (h : useE W H L r = 0) : gE W H L = 0 ∧ r = true := by
  unfold useE at h
  split at h
  · cases h
  · split at h
    · rename_i h1 h2; exact ⟨by omega, h2⟩
    · cases h
theorem setR_bad {W H : Int} {L : List (List C)} {row : Int} {l : List C} (h : useE W H L (decide (0 ≤ row ∧ row < H)) ≠ 0) : setR W H L row l = bad (useE W H L (decide (0 ≤ row ∧ row < H))) := by
  unfold setR useE at *
  split
  · rfl
  · rename_i h1
    rw [if_neg h1] at h
    split
    · rename_i h2; rw [decide_eq_false h2, if_neg (by decide)]
    · rename_i h2
      rw [decide_eq_true (Decidable.not_not.1 h2), if_pos rfl] at h
      exact absurd rfl h
theorem setR_ok {W H : Int} {L : List (List C)} {row : Int} {l : List C} (h : useE W H L (decide (0 ≤ row ∧ row < H)) = 0) : setR W H L row l = if check l ≠ 0 then bad (check l) else if (l.length : Int) ≠ W then bad 12 else ⟨0, W, H, L.set row.toNat l, []⟩ := by
  obtain ⟨h1, h2⟩ := useE_zero h
  unfold setR
  rw [if_neg (by omega), if_neg (by have := of_decide_eq_true h2; omega)]

set_option maxHeartbeats 4000000 in
set_option maxRecDepth 100000 in
theorem gset_any (W H : Int) (A : Option Addr) (n c : Nat) (L : List (List C)) (row : Int) (B : Option Addr) (m d : Nat) (l : List C) (w : World) (hr : RdR w A n L) (hmax : n ≤ 9223372036854775807) (hs : SmR L) (hrl : Rd w B m l) (hmd : m ≤ d) (hm63 : m ≤ 9223372036854775807) (hsl : Sm l) (hT : Lib.Utf8Tabs 0 1 w) :
    Calls Tryd.prog 21 #[.agg #[.int .i64 W, .int .i64 H, .slice A n c], .int .i64 row, .slice B m d] w fun e w' => Out2 w (setR W H L row l) e w' := by
  have hl : l.length = m := hrl.1
  obtain ⟨V, hV⟩ : ∃ V, (w.alloc (.cells #[.int .i64 W, .int .i64 H, .slice A n c] 24)).alloc (.cells #[.int .i64 0, .int .i64 0, .slice none 0 0] 24) = V := ⟨_, rfl⟩
  obtain ⟨k1, k2, bV⟩ := two_in w W H A n c
  rw [hV] at k1 k2 bV
  have K1 := Lib.hid k1
  have K2 := Lib.hid k2
  have BV := Lib.hid bV
  have HR := Lib.hid (fun U (h : Below w.heap.size w U) => hr.below h)
  have HRL := Lib.hid (fun U (h : Below w.heap.size w U) => hrl.below h)
  have HT := Lib.hid (fun U (h : Below w.heap.size w U) => Utf8Tabs_below hT h)
  have CU := Lib.hid (fun r => checkUse_any W H A n c L r V (hr.below bV) hmax hs (Utf8Tabs_below hT bV))
  have key : (0 ≤ row ∧ row < H) ∨ ¬ 0 ≤ row ∨ (0 ≤ row ∧ ¬ row < H) := by omega
  clear hr hrl hT k1 k2 bV
  by_cases hq : useE W H L (decide (0 ≤ row ∧ row < H)) = 0
  · rw [setR_ok hq]
    obtain ⟨hgE, hrr⟩ := useE_zero hq
    have hrow := of_decide_eq_true hrr
    obtain ⟨v, h, rfl, rfl, hgood⟩ := gE_good hgE
    have CU1 := Lib.hid (CU.out true)
    rw [hrr] at hq
    rw [hq] at CU1
    obtain ⟨j, rfl⟩ : ∃ j : Nat, row = (j : Int) := ⟨row.toNat, by omega⟩
    have hnh : n = h := by have := (HR.out w (Below.refl _ _)).1; have := hgood.2.2.2.2.1; omega
    subst hnh
    obtain ⟨r1, r2⟩ := hrow
    have hjn : j < n := by omega
    have hj0 : (0 : Int) ≤ (j : Int) := by omega
    clear key hgE hrr hq CU
    by_cases hc : check l = 0
    · have CC := Lib.hid (fun U (h : Below w.heap.size w U) => checkRow_any B m d l U (HRL.out U h) hmd hm63 hsl (HT.out U h))
      rw [hc] at CC
      by_cases hw : (m : Int) = (v : Int)
      · have hmv : m = v := by omega
        subst hmv
        rw [if_neg (by omega), if_neg (by rw [hl]; omega), Int.toNat_natCast]
        have hlen := check_zero.1 hc
        obtain ⟨ab, ao, rfl⟩ := (HRL.out w (Below.refl _ _)).addr (by omega)
        have CP := Lib.hid (fun U (h : Below w.heap.size w U) => copyRows_any A n c L (by have := hgood.2.2.2.1; omega) U (HR.out U h) (fun x hx => by have := hgood.2.2.2.2.2 x hx; have := hgood.1; have := hgood.2.1; omega))
        have CL := Lib.hid (fun U (h : Below w.heap.size w U) => cloneR_any ab ao m d l (by omega) U (HRL.out U h))
        have CO := Lib.hid (fun A n c U => gridOf_any (m : Int) A n c U)
        have hm1000 : m ≤ 1000 := by omega
        clear hc hw hlen hgood hl
        subst hV
        go_enter Tryd.func21, Tryd.ntmps21
        go_wp2_with fail
        refine CU1.out.mono ?_
        rintro e w1 ⟨rfl, b1⟩
        have K11 := Lib.hid (K1.out.below b1)
        have K21 := Lib.hid (K2.out.below b1)
        have B1 := Lib.hid (BV.out.trans (b1.mono BV.out.size))
        clear b1 CU1
        go_wp2_with fail
        refine (CC.out w1 B1.out).mono ?_
        rintro e w2 ⟨rfl, b2⟩
        have K12 := Lib.hid (K11.out.below b2)
        have K22 := Lib.hid (K21.out.below b2)
        have B2 := Lib.hid (B1.out.trans (b2.mono B1.out.size))
        have p0 := K12.out.c0
        have p2 := K12.out.c2
        have hlt := K22.out.lt
        clear b2 CC
        go_wp2_with fail
        refine (CP.out w2 B2.out).mono ?_
        rintro e w3 ⟨g, rfl, hG⟩
        have K13 := Lib.hid (K12.out.below hG.bel)
        have K23 := Lib.hid (K22.out.below hG.bel)
        have B3 := Lib.hid (B2.out.trans (hG.bel.mono B2.out.size))
        have G3 := Lib.hid hG
        clear hG CP p0 p2
        go_wp2_with fail
        refine (CL.out w3 B3.out).mono ?_
        rintro e w4 ⟨g4, cap, rfl, hO⟩
        have hA4 := G3.out.below hO.2
        have hin := GivesIn (c := cap) hO.rd.1 ⟨hO.rd.2, hO.mine.cap⟩ hm1000
        have hoff := Off.fresh (m := m) (c := cap) G3.out hO.mine.fr
        have hset := hA4.set j _ _ hjn hin hoff
        obtain ⟨hf, x, hx⟩ := hA4.free j hjn
        have k14 := K13.out.below hO.2
        have k24 := K23.out.below hO.2
        have hgk1 : w.heap.size ≠ g := by have t1 : w2.heap.size ≤ g := G3.out.gv.2.2 _ rfl; have t2 := K12.out.lt; omega
        have hgk2 : w.heap.size + 1 ≠ g := by have t1 : w2.heap.size ≤ g := G3.out.gv.2.2 _ rfl; omega
        have K14 : Hid (Kg (w4.setCell ⟨g, j, none⟩ (.slice (some ⟨g4, 0, none⟩) m cap)) w.heap.size (m : Int) (n : Int) A n c) := Lib.hid ((heap_setCell_other w4 _ _ _ hgk1).trans k14)
        have K24 : Hid (Kg (w4.setCell ⟨g, j, none⟩ (.slice (some ⟨g4, 0, none⟩) m cap)) (w.heap.size + 1) 0 0 none 0 0) := Lib.hid ((heap_setCell_other w4 _ _ _ hgk2).trans k24)
        have G4 := Lib.hid hset
        have B4 := Lib.hid (B2.out.trans (hset.bel.mono B2.out.size))
        have p0 := K14.out.c0
        clear hset hin hoff hA4 hO k14 k24 hgk1 hgk2 CL
        go_wp2_with fail
        refine (CO.out _ _ _ _).mono ?_
        rintro e w5 ⟨rfl, b5⟩
        have K25 := Lib.hid (K24.out.below b5)
        have G5 := Lib.hid (G4.out.below b5)
        have B5 := Lib.hid (B4.out.trans (b5.mono B4.out.size))
        have q0 := K25.out.c0
        have q1 := K25.out.c1
        have q2 := K25.out.c2
        have qf := K25.out.z
        clear b5 CO p0 hx hf
        go_wp2
        refine bodyPost_ret (res2 rfl _ _ _ _ _ _ rfl (K25.out.put (m : Int) (n : Int) (some ⟨g, 0, none⟩) n n)) rfl ?_
        exact ⟨_, _, _, rfl, ((G5.out.gv.g3 K25.out hlt _ _ _).rebase B2.out), below_g3 B5.out (by omega) _ _ _⟩
      · rw [if_neg (by omega), if_pos (by rw [hl]; exact hw)]
        have hwb : ((m : Int) != (v : Int)) = true := by simpa using hw
        clear hc hgood hl
        subst hV
        go_enter Tryd.func21, Tryd.ntmps21
        go_wp2_with fail
        refine CU1.out.mono ?_
        rintro e w1 ⟨rfl, b1⟩
        have K11 := Lib.hid (K1.out.below b1)
        have K21 := Lib.hid (K2.out.below b1)
        have B1 := Lib.hid (BV.out.trans (b1.mono BV.out.size))
        clear b1 CU1
        go_wp2_with fail
        refine (CC.out w1 B1.out).mono ?_
        rintro e w2 ⟨rfl, b2⟩
        have K12 := Lib.hid (K11.out.below b2)
        have K22 := Lib.hid (K21.out.below b2)
        have B2 := Lib.hid (B1.out.trans (b2.mono B1.out.size))
        have p0 := K12.out.c0
        have q0 := K22.out.c0
        have q1 := K22.out.c1
        have q2 := K22.out.c2
        have qf := K22.out.z
        clear b2 CC
        go_wp2
        refine bodyPost_ret (res2 rfl _ _ _ _ _ _ rfl (K22.out.put 0 0 none 0 0)) rfl ?_
        exact ⟨none, 0, 0, rfl, Gv.nil _ _, below_g3 B2.out (by omega) _ _ _⟩
    · have CC := Lib.hid (fun U (h : Below w.heap.size w U) => checkRow_any B m d l U (HRL.out U h) hmd hm63 hsl (HT.out U h))
      obtain ⟨q, hqq⟩ : ∃ q, check l = q := ⟨_, rfl⟩
      rw [hqq] at CC hc ⊢
      rw [if_pos hc]
      have hqb : (((q : Nat) : Int) != 0) = true := nat_ne hc
      clear hgood hl hqq
      subst hV
      go_enter Tryd.func21, Tryd.ntmps21
      go_wp2_with fail
      refine CU1.out.mono ?_
      rintro e w1 ⟨rfl, b1⟩
      have K21 := Lib.hid (K2.out.below b1)
      have B1 := Lib.hid (BV.out.trans (b1.mono BV.out.size))
      clear b1 CU1
      go_wp2_with fail
      refine (CC.out w1 B1.out).mono ?_
      rintro e w2 ⟨rfl, b2⟩
      have K22 := Lib.hid (K21.out.below b2)
      have B2 := Lib.hid (B1.out.trans (b2.mono B1.out.size))
      have q0 := K22.out.c0
      have q1 := K22.out.c1
      have q2 := K22.out.c2
      have qf := K22.out.z
      clear b2 CC
      go_wp2
      refine bodyPost_ret (res2 rfl _ _ _ _ _ _ rfl (K22.out.put 0 0 none 0 0)) rfl ?_
      exact ⟨none, 0, 0, rfl, Gv.nil _ _, below_g3 B2.out (by omega) _ _ _⟩
  · rw [setR_bad hq]
    have CU1 := Lib.hid (CU.out (decide (0 ≤ row ∧ row < H)))
    generalize useE W H L (decide (0 ≤ row ∧ row < H)) = q at hq CU1 ⊢
    have hqb : (((q : Nat) : Int) != 0) = true := nat_ne hq
    clear CU hl
    subst hV
    rcases key with ⟨c1, c2⟩ | c1 | ⟨c1, c2⟩
    case inl => rw [decide_eq_true ⟨c1, c2⟩] at CU1; skip; all_goals (go_enter Tryd.func21, Tryd.ntmps21; go_wp2_with fail; refine CU1.out.mono ?_; rintro e w1 ⟨rfl, b1⟩; have K21 := Lib.hid (K2.out.below b1); have B1 := Lib.hid (BV.out.trans (b1.mono BV.out.size)); have q0 := K21.out.c0; have q1 := K21.out.c1; have q2 := K21.out.c2; have qf := K21.out.z; clear b1 CU1; go_wp2; refine bodyPost_ret (res2 rfl _ _ _ _ _ _ rfl (K21.out.put 0 0 none 0 0)) rfl ?_; exact ⟨none, 0, 0, rfl, Gv.nil _ _, below_g3 B1.out (by omega) _ _ _⟩)
    case inr.inl => rw [decide_eq_false (fun e => c1 e.1)] at CU1; skip; all_goals (go_enter Tryd.func21, Tryd.ntmps21; go_wp2_with fail; refine CU1.out.mono ?_; rintro e w1 ⟨rfl, b1⟩; have K21 := Lib.hid (K2.out.below b1); have B1 := Lib.hid (BV.out.trans (b1.mono BV.out.size)); have q0 := K21.out.c0; have q1 := K21.out.c1; have q2 := K21.out.c2; have qf := K21.out.z; clear b1 CU1; go_wp2; refine bodyPost_ret (res2 rfl _ _ _ _ _ _ rfl (K21.out.put 0 0 none 0 0)) rfl ?_; exact ⟨none, 0, 0, rfl, Gv.nil _ _, below_g3 B1.out (by omega) _ _ _⟩)
    case inr.inr => rw [decide_eq_false (fun e => c2 e.2)] at CU1; skip; all_goals (go_enter Tryd.func21, Tryd.ntmps21; go_wp2_with fail; refine CU1.out.mono ?_; rintro e w1 ⟨rfl, b1⟩; have K21 := Lib.hid (K2.out.below b1); have B1 := Lib.hid (BV.out.trans (b1.mono BV.out.size)); have q0 := K21.out.c0; have q1 := K21.out.c1; have q2 := K21.out.c2; have qf := K21.out.z; clear b1 CU1; go_wp2; refine bodyPost_ret (res2 rfl _ _ _ _ _ _ rfl (K21.out.put 0 0 none 0 0)) rfl ?_; exact ⟨none, 0, 0, rfl, Gv.nil _ _, below_g3 B1.out (by omega) _ _ _⟩)

end Go.Proofs.YtokeaoapcjlmkaaDoor
