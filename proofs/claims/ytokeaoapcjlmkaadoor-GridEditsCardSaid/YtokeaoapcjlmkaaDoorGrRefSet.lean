/-
  The document's own Set of layer 8.
-/
import Derived.Test.YtokeaoapcjlmkaaDoorGrRefClear
namespace Go.Proofs.YtokeaoapcjlmkaaDoor
open Go.RowKit Go.Shelf Cr Gd

set_option maxHeartbeats 4000000 in
set_option maxRecDepth 100000 in
theorem rset_any (W H : Int) (A : Option Addr) (n c : Nat) (L : List (List C)) (row : Int) (B : Option Addr) (m d : Nat) (l : List C) (w : World) (hr : RdR w A n L) (hmax : n ≤ 9223372036854775807) (hs : SmR L) (hrl : Rd w B m l) (hm63 : m ≤ 9223372036854775807) (hsl : Sm l) :
    Calls Tryd.prog 22 #[.agg #[.int .i64 W, .int .i64 H, .slice A n c], .int .i64 row, .slice B m d] w fun e w' => Out2 w (setR W H L row l) e w' := by
  have hl : l.length = m := hrl.1
  obtain ⟨V, hV⟩ : ∃ V, (w.alloc (.cells #[.int .i64 W, .int .i64 H, .slice A n c] 24)).alloc (.cells #[.int .i64 0, .int .i64 0, .slice none 0 0] 24) = V := ⟨_, rfl⟩
  obtain ⟨k1, k2, bV⟩ := two_in w W H A n c
  rw [hV] at k1 k2 bV
  have K1 := Lib.hid k1
  have K2 := Lib.hid k2
  have BV := Lib.hid bV
  have HR := Lib.hid (fun U (h : Below w.heap.size w U) => hr.below h)
  have HRL := Lib.hid (fun U (h : Below w.heap.size w U) => hrl.below h)
  have CC := Lib.hid (rcheck_any W H A n c L V (hr.below bV) hmax hs)
  clear hr hrl k1 k2 bV
  by_cases hq : gE W H L = 0
  · rw [hq] at CC
    by_cases hrow : 0 ≤ row ∧ row < H
    · rw [setR_3 hq hrow]
      obtain ⟨v, h, rfl, rfl, hgood⟩ := gE_good hq
      obtain ⟨r1, r2⟩ := hrow
      obtain ⟨j, rfl⟩ : ∃ j : Nat, row = (j : Int) := ⟨row.toNat, by omega⟩
      have hnh : n = h := by have := (HR.out w (Below.refl _ _)).1; have := hgood.2.2.2.2.1; omega
      subst hnh
      have hjn : j < n := by omega
      have hj0 : ¬ (j : Int) < 0 := by omega
      have hj00 : (0 : Int) ≤ (j : Int) := by omega
      have CL := Lib.hid (fun U (h : Below w.heap.size w U) => refCheckRow_any B m d l U (HRL.out U h) hm63 hsl)
      by_cases hc : check l = 0
      · rw [hc] at CL
        rw [if_neg (by omega)]
        by_cases hw : (m : Int) = (v : Int)
        · have hmv : m = v := by omega
          subst hmv
          rw [if_neg (by rw [hl]; omega), Int.toNat_natCast]
          have hlen := check_zero.1 hc
          obtain ⟨ab, ao, rfl⟩ := (HRL.out w (Below.refl _ _)).addr (by omega)
          have CP := Lib.hid (fun U (h : Below w.heap.size w U) => rcopied_any A n c L (by have := hgood.2.2.2.1; omega) U (HR.out U h) (rows_ok hgood))
          have hm1000 : m ≤ 1000 := by omega
          have hll : ([] : List C).length + l.length ≤ 100000 := by simp; omega
          have HLM := Lib.hid hl
          clear hq hc hw hlen hgood hs hsl
          subst hl
          subst hV
          go_enter Tryd.func22, Tryd.ntmps22
          go_wp2_with fail
          refine CC.out.mono ?_
          rintro e w1 ⟨rfl, b1⟩
          have K11 := Lib.hid (K1.out.below b1)
          have K21 := Lib.hid (K2.out.below b1)
          have B1 := Lib.hid (BV.out.trans (b1.mono BV.out.size))
          have p1 := K11.out.c1
          clear b1 CC
          go_wp2_with fail
          refine (CL.out w1 B1.out).mono ?_
          rintro e w2 ⟨rfl, b2⟩
          have K12 := Lib.hid (K11.out.below b2)
          have K22 := Lib.hid (K21.out.below b2)
          have B2 := Lib.hid (B1.out.trans (b2.mono B1.out.size))
          clear b2 p1 CL
          have p0 := K12.out.c0
          have p2 := K12.out.c2
          go_wp2_with fail
          refine (CP.out w2 B2.out).mono ?_
          rintro e w3 ⟨g2, cap, rfl, hG⟩
          have k13 := K12.out.below hG.bel
          have hGw := hG.rebase B2.out
          have x2 := k13.c2
          have xz := k13.z
          have KX := Lib.hid (k13.field (some ⟨g2, 0, none⟩) n cap)
          have KZ2 := Lib.hid ((K22.out.below hG.bel).other (q := w.heap.size) (i := 2) (by omega) (.slice (some ⟨g2, 0, none⟩) n cap))
          have GX := Lib.hid (hGw.field k13 (Nat.le_refl _) (.slice (some ⟨g2, 0, none⟩) n cap))
          clear k13 hG hGw CP p0 p2
          go_wp2
          generalize w3.setCell ⟨w.heap.size, 2, none⟩ (.slice (some ⟨g2, 0, none⟩) n cap) = U at KX KZ2 GX ⊢
          clear x2 xz
          have bE := (Below.refl U.heap.size U).alloc (Nat.le_refl _) (.cells #[] 66)
          obtain ⟨X, hX⟩ : ∃ X, (U.alloc (.cells #[] 66)).drew = X := ⟨_, rfl⟩
          have bX : Below U.heap.size U X := by rw [← hX]; exact bE.drew
          have HO : Hid (Own U X (.slice (some ⟨U.heap.size, 0, none⟩) 0 0) []) := Lib.hid (by rw [← hX]; exact (Own.empty U).drew)
          have hne : Value.slice (some ⟨U.heap.size, 0, none⟩) 0 0 ≠ .slice none 0 0 := by intro e; cases e
          have RL := Lib.hid ((HRL.out U GX.out.bel).below bX)
          have x2 := KX.out.c2
          have x2a := (KX.out.below bE).c2
          have x2x := (KX.out.below bX).c2
          obtain ⟨fz, c0, hc0⟩ := GX.out.free j hjn
          clear bE
          go_region_law (refine wp_joinO2 (by rfl) (.tmp 41) (.tmp 42) (by rfl) U X _ [] l ab ao l.length d (by rfl) (by rfl) HO.out RL.out hll hne ?_; intro g5 c5 w5 hO5; rw [List.nil_append, List.length_nil, Nat.zero_add] at hO5; have bd := hO5.out.2; have k5 := KX.out.below bd; have y2 := k5.c2; have a5 := GX.out.below bd; have fr5 := a5.free j hjn; have f5 := fr5.1; have K5 := Lib.hid k5; have KZ5 := Lib.hid (KZ2.out.below bd); have A5 := Lib.hid a5; have HSET := Lib.hid (a5.set j _ _ hjn (GivesIn (c := c5) hO5.out.rd.1 ⟨hO5.out.rd.2, hO5.out.mine.cap⟩ hm1000) (Off.fresh (m := l.length) (c := c5) GX.out hO5.out.mine.fr)); obtain ⟨c6, hc6⟩ := fr5.2; clear bd k5 a5 fr5 hO5)
          all_goals
            have KY : Hid (Kg (w5.setCell ⟨g2, j, none⟩ (.slice (some ⟨g5, 0, none⟩) l.length c5)) w.heap.size (l.length : Int) (n : Int) (some ⟨g2, 0, none⟩) n cap) := Lib.hid ((heap_setCell_other _ _ _ _ (fun e => A5.out.ne K5.out (grid_no _ _ _) (by simp [Value.ownBlock, e]))).trans K5.out)
            have KW : Hid (Kg (w5.setCell ⟨g2, j, none⟩ (.slice (some ⟨g5, 0, none⟩) l.length c5)) (w.heap.size + 1) 0 0 none 0 0) := Lib.hid ((heap_setCell_other _ _ _ _ (fun e => A5.out.ne KZ5.out (grid_no _ _ _) (by simp [Value.ownBlock, e]))).trans KZ5.out)
            clear x2 x2a x2x hX y2 f5 hc6 fz hc0
            have q0 := KY.out.c0
            have q1 := KY.out.c1
            have q2 := KY.out.c2
            have z0 := KW.out.c0
            have z1 := KW.out.c1
            have z2 := KW.out.c2
            have zf := KW.out.z
            generalize w5.setCell ⟨g2, j, none⟩ (.slice (some ⟨g5, 0, none⟩) l.length c5) = Y at KY KW HSET q0 q1 q2 z0 z1 z2 zf ⊢
            go_wp2
            refine bodyPost_ret (res2 rfl _ _ _ _ _ _ rfl (KW.out.put (l.length : Int) (n : Int) (some ⟨g2, 0, none⟩) n cap)) rfl ?_
            exact ⟨_, _, _, rfl, (HSET.out.put3 KW.out (by omega) (l.length : Int) (n : Int) (.slice (some ⟨g2, 0, none⟩) n cap)).gv, below_g3 HSET.out.bel (by omega) _ _ _⟩
        · rw [if_pos (by rw [hl]; exact hw)]
          have hwb : ((m : Int) != (v : Int)) = true := by simpa using hw
          clear hq hc hgood hl hs hsl
          subst hV
          go_enter Tryd.func22, Tryd.ntmps22
          go_wp2_with fail
          refine CC.out.mono ?_
          rintro e w1 ⟨rfl, b1⟩
          have K11 := Lib.hid (K1.out.below b1)
          have K21 := Lib.hid (K2.out.below b1)
          have B1 := Lib.hid (BV.out.trans (b1.mono BV.out.size))
          have p1 := K11.out.c1
          clear b1 CC
          go_wp2_with fail
          refine (CL.out w1 B1.out).mono ?_
          rintro e w2 ⟨rfl, b2⟩
          have K22 := Lib.hid (K21.out.below b2)
          have B2 := Lib.hid (B1.out.trans (b2.mono B1.out.size))
          have p0 := (K11.out.below b2).c0
          have q0 := K22.out.c0
          have q1 := K22.out.c1
          have q2 := K22.out.c2
          have qf := K22.out.z
          clear b2 CL p1
          go_wp2
          refine bodyPost_ret (res2 rfl _ _ _ _ _ _ rfl (K22.out.put 0 0 none 0 0)) rfl ?_
          exact ⟨none, 0, 0, rfl, Gv.nil _ _, below_g3 B2.out (by omega) _ _ _⟩
      · obtain ⟨q, hqq⟩ : ∃ q, check l = q := ⟨_, rfl⟩
        rw [hqq] at CL hc ⊢
        rw [if_pos hc]
        have hqb : (((q : Nat) : Int) != 0) = true := nat_ne hc
        clear hq hgood hl hqq hs hsl
        subst hV
        go_enter Tryd.func22, Tryd.ntmps22
        go_wp2_with fail
        refine CC.out.mono ?_
        rintro e w1 ⟨rfl, b1⟩
        have K11 := Lib.hid (K1.out.below b1)
        have K21 := Lib.hid (K2.out.below b1)
        have B1 := Lib.hid (BV.out.trans (b1.mono BV.out.size))
        have p1 := K11.out.c1
        clear b1 CC
        go_wp2_with fail
        refine (CL.out w1 B1.out).mono ?_
        rintro e w2 ⟨rfl, b2⟩
        have K22 := Lib.hid (K21.out.below b2)
        have B2 := Lib.hid (B1.out.trans (b2.mono B1.out.size))
        have q0 := K22.out.c0
        have q1 := K22.out.c1
        have q2 := K22.out.c2
        have qf := K22.out.z
        clear b2 CL p1
        go_wp2
        refine bodyPost_ret (res2 rfl _ _ _ _ _ _ rfl (K22.out.put 0 0 none 0 0)) rfl ?_
        exact ⟨none, 0, 0, rfl, Gv.nil _ _, below_g3 B2.out (by omega) _ _ _⟩
    · rw [setR_2 hq hrow]
      have key : row < 0 ∨ (¬ row < 0 ∧ H ≤ row) := by omega
      clear hq hrow hs hsl hl
      subst hV
      rcases key with c1 | ⟨c1, c2⟩
      all_goals
        go_enter Tryd.func22, Tryd.ntmps22
        go_wp2_with fail
        refine CC.out.mono ?_
        rintro e w1 ⟨rfl, b1⟩
        have K21 := Lib.hid (K2.out.below b1)
        have B1 := Lib.hid (BV.out.trans (b1.mono BV.out.size))
        have p1 := (K1.out.below b1).c1
        have q0 := K21.out.c0
        have q1 := K21.out.c1
        have q2 := K21.out.c2
        have qf := K21.out.z
        clear b1 CC
        go_wp2
        refine bodyPost_ret (res2 rfl _ _ _ _ _ _ rfl (K21.out.put 0 0 none 0 0)) rfl ?_
        exact ⟨none, 0, 0, rfl, Gv.nil _ _, below_g3 B1.out (by omega) _ _ _⟩
  · rw [setR_1 hq]
    generalize gE W H L = q at hq CC
    have hqb : (((q : Nat) : Int) != 0) = true := nat_ne hq
    clear hs hsl hl
    subst hV
    go_enter Tryd.func22, Tryd.ntmps22
    go_wp2_with fail
    refine CC.out.mono ?_
    rintro e w1 ⟨rfl, b1⟩
    have K21 := Lib.hid (K2.out.below b1)
    have B1 := Lib.hid (BV.out.trans (b1.mono BV.out.size))
    have q0 := K21.out.c0
    have q1 := K21.out.c1
    have q2 := K21.out.c2
    have qf := K21.out.z
    clear b1 CC
    go_wp2
    refine bodyPost_ret (res2 rfl _ _ _ _ _ _ rfl (K21.out.put 0 0 none 0 0)) rfl ?_
    exact ⟨none, 0, 0, rfl, Gv.nil _ _, below_g3 B1.out (by omega) _ _ _⟩

end Go.Proofs.YtokeaoapcjlmkaaDoor
