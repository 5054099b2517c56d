/-
  The document's own Resize of layer 8.
-/
import Derived.Test.YtokeaoapcjlmkaaDoorGrRefNew
import Derived.Test.YtokeaoapcjlmkaaDoorGrResize
namespace Go.Proofs.YtokeaoapcjlmkaaDoor
open Go.RowKit Go.Shelf Cr Gd

theorem resizeR_1 {W H : Int} {L : List (List C)} {x y : Int} (h : gE W H L ≠ 0) : resizeR W H L x y = bad 1 := by unfold resizeR; rw [if_pos h]
theorem resizeR_2 {W H : Int} {L : List (List C)} {x y : Int} (h : gE W H L = 0) (h2 : ¬ sizeOk x y) : resizeR W H L x y = bad 2 := by unfold resizeR; rw [if_neg (by omega), if_pos h2]

set_option maxHeartbeats 4000000 in
set_option maxRecDepth 100000 in
theorem rresize_any (W H : Int) (A : Option Addr) (n c : Nat) (L : List (List C)) (x y : Int) (w : World) (hr : RdR w A n L) (hmax : n ≤ 9223372036854775807) (hs : SmR L) :
    Calls Tryd.prog 26 #[.agg #[.int .i64 W, .int .i64 H, .slice A n c], .int .i64 x, .int .i64 y] w fun e w' => Out2 w (resizeR W H L x y) e w' := by
  obtain ⟨V, hV⟩ : ∃ V, (w.alloc (.cells #[.int .i64 W, .int .i64 H, .slice A n c] 24)).alloc (.cells #[.int .i64 0, .int .i64 0, .slice none 0 0] 24) = V := ⟨_, rfl⟩
  obtain ⟨k1, k2, bV⟩ := two_in w W H A n c
  rw [hV] at k1 k2 bV
  have K1 := Lib.hid k1
  have K2 := Lib.hid k2
  have BV := Lib.hid bV
  have HR := Lib.hid (fun U (h : Below w.heap.size w U) => hr.below h)
  have CC := Lib.hid (rcheck_any W H A n c L V (hr.below bV) hmax hs)
  have CN := Lib.hid (fun U => rnew_any x y U)
  clear hr k1 k2 bV
  by_cases hq : gE W H L = 0
  · rw [hq] at CC
    by_cases hz : sizeOk x y
    · rw [resizeR_ok (by unfold useE; rw [if_neg (by omega), decide_eq_true hz, if_pos rfl])]
      have eN : newR x y = ⟨0, x, y, List.replicate y.toNat (blanks x.toNat (-1)), []⟩ := by unfold newR; rw [if_pos hz]
      rw [eN] at CN
      obtain ⟨a1, a2, a3, a4⟩ := hz
      obtain ⟨v, h, rfl, rfl, hgood⟩ := gE_good hq
      obtain ⟨i, rfl⟩ : ∃ i : Nat, x = (i : Int) := ⟨x.toNat, by omega⟩
      obtain ⟨j, rfl⟩ : ∃ j : Nat, y = (j : Int) := ⟨y.toNat, by omega⟩
      rw [Int.toNat_natCast, Int.toNat_natCast] at CN ⊢
      have hLn : L.length = h := hgood.2.2.2.2.1
      have hnh : n = h := by have := (HR.out w (Below.refl _ _)).1; omega
      subst hnh
      have hn60 : n ≤ 60 := hgood.2.2.2.1
      have hn1 : 1 ≤ n := hgood.2.2.1
      have hrsz : rsz L i j = (L.take (min j n)).map (fun l => fit l i) ++ List.replicate (j - min j n) (blanks i (-1)) := by unfold rsz; rw [hLn]
      rw [hrsz]
      have CF := Lib.hid (fun (A' : Option Addr) (m c' : Nat) (l : List C) U (hl : l ∈ L) (hrd : Rd U A' m l) (hm63 : m ≤ 9223372036854775807) => by
        have hk := reffit_any A' m c' l (i : Int) U hrd hm63 (hs l hl)
        have hfl : fitL l (i : Int) = fit l i := by unfold fitL; rw [if_pos ⟨hgood.chk hl, a1, a2⟩, Int.toNat_natCast]
        rw [hfl] at hk
        exact hk)
      obtain ⟨ab, ao, rfl⟩ := (HR.out w (Below.refl _ _)).addr (by omega)
      have HLn := Lib.hid hLn
      have hi132 : i ≤ 1000 := by omega
      have hjz : (j : Int) ≤ 60 := a4
      have hnz : (n : Int) ≤ 60 := by omega
      have hj1 : 1 ≤ j := by omega
      generalize blanks i (-1) = bl at CN ⊢
      obtain ⟨Z, hZ⟩ : ∃ Z, (L.take (min j n)).map (fun l => fit l i) ++ List.replicate (j - min j n) bl = Z := ⟨_, rfl⟩
      rw [hZ]
      have HZ := Lib.hid hZ
      clear hZ
      clear hq eN hgood hrsz hs hLn
      subst hV
      go_enter Tryd.func26, Tryd.ntmps26
      go_wp2_with fail
      refine CC.out.mono ?_
      rintro e w1 ⟨rfl, b1⟩
      have K11 := Lib.hid (K1.out.below b1)
      have K21 := Lib.hid (K2.out.below b1)
      have B1 := Lib.hid (BV.out.trans (b1.mono BV.out.size))
      clear b1 CC
      go_wp2_with fail
      refine (CN.out w1).mono ?_
      rintro e w2 ⟨A2, n2, c2, rfl, g2⟩
      have hn2 : j = n2 := by have := g2.rd.1.1; simpa using this
      subst hn2
      have hsl := g2.slice
      have hA2 : ∃ q2, A2 = some ⟨q2, 0, none⟩ := by
        rcases hsl with ⟨e, e0⟩ | ⟨q2, cap, e, _⟩
        · have := congrArg List.length e0
          simp at this
          omega
        · injection e with e
          exact ⟨q2, e⟩
      obtain ⟨q2, rfl⟩ := hA2
      have bx := (Below.refl w2.heap.size w2).alloc (Nat.le_refl _) (.cells #[.int .i64 (i : Int), .int .i64 (j : Int), .slice (some ⟨q2, 0, none⟩) j c2] 24)
      have K3 := Lib.hid (Kg.new w2 (i : Int) (j : Int) (some ⟨q2, 0, none⟩) j c2)
      have G2 := Lib.hid (g2.below bx)
      have HP := Lib.hid (Nat.lt_of_lt_of_le K21.out.lt g2.bel.size)
      clear g2 hsl bx CN
      go_wp2
      go_loopg [10] (j + 1) (fun gk v10 wr => ∃ k : Nat, gk + k = j + 1 ∧ k ≤ j ∧ k ≤ n ∧ v10 = .int .i64 (k : Int) ∧ Aside (Kg wr w2.heap.size (i : Int) (j : Int) (some ⟨q2, 0, none⟩) j c2 ∧ GR w1 wr (.slice (some ⟨q2, 0, none⟩) j c2) ((L.take k).map (fun l => fit l i) ++ List.replicate (j - k) bl)))
      case atStart => exact ⟨0, by omega, Nat.zero_le _, Nat.zero_le _, rfl, K3.out, by simpa using G2.out⟩
      case round =>
        obtain ⟨k, hg, hkj, hkn, rfl, hA⟩ := hrel
        have HA := Lib.hid hA.out
        have bw1 := HA.out.2.bel
        have KG := Lib.hid (K11.out.below bw1)
        have KZ := Lib.hid (K21.out.below bw1)
        have BW := Lib.hid (B1.out.trans (bw1.mono B1.out.size))
        have p1 := KG.out.c1
        clear hA bw1
        by_cases hlt : k < j ∧ k < n
        · obtain ⟨gf, rfl⟩ : ∃ gf, gk = gf + 1 := ⟨gk - 1, by omega⟩
          have hz1 : (k : Int) < (j : Int) := by omega
          have hz2 : (k : Int) < (n : Int) := by omega
          have hz0 : (0 : Int) ≤ (k : Int) := by omega
          obtain ⟨l, hx⟩ : ∃ l, L[k]? = some l := ⟨L[k]'(by rw [HLn.out]; exact hlt.2), List.getElem?_eq_getElem _⟩
          obtain ⟨bb, oo, A', m, c', hAA, hblt, hc, hrd, hmc, _, hm63⟩ := (HR.out wr BW.out).at k l hx
          injection hAA with hAA
          injection hAA with e1 e2
          subst e1 e2
          have CFk := Lib.hid (CF.out A' m c' l wr.drew (List.mem_of_getElem? hx) hrd.drew hm63)
          have x2 := HA.out.1.c2
          have p2 := KG.out.c2
          have HS : Hid (((L.take k).map (fun l => fit l i) ++ List.replicate (j - k) bl).set k (fit l i) = (L.take (k + 1)).map (fun l => fit l i) ++ List.replicate (j - (k + 1)) bl) := Lib.hid (by
            obtain ⟨r, hr'⟩ : ∃ r, j - k = r + 1 := ⟨j - k - 1, by omega⟩
            have e : j - (k + 1) = r := by omega
            have hl' : ((L.take k).map (fun l => fit l i)).length = k := by rw [List.length_map, List.length_take, HLn.out]; omega
            rw [hr', e, List.set_append_right _ _ (by omega), hl', Nat.sub_self, List.replicate_succ, List.set_cons_zero, List.take_add_one, hx, List.map_append]
            simp)
          obtain ⟨hf, x0, hx0⟩ := HA.out.2.free k hlt.1
          have hkj' : k < j := hlt.1
          clear hx hrd
          go_wp2
          go_region_law (go_simp; refine CFk.out.mono ?_; rintro e' w3 ⟨A3, n3, c3, rfl, hGv, hF⟩; have bd := (Below.refl wr.heap.size wr).drew.trans hGv.2.2; have k3 := HA.out.1.below bd; have y2 := k3.c2; have z2 := (KG.out.below bd).c2; have cc := (bd.cell (p := ⟨ab, ao + k, none⟩) hblt).trans hc; have a3' := HA.out.2.below bd; have fr3 := a3'.free k hkj'; have f3 := fr3.1; have K3x := Lib.hid k3; have HSET := Lib.hid (a3'.set k _ _ hkj' (GivesIn hGv.1 hGv.2.1 (by rw [← hGv.1.1, fit_length]; exact hi132)) (Off.fresh (m := n3) (c := c3) HA.out.2 hF)); have A3x := Lib.hid a3'; obtain ⟨x3, hx3⟩ := fr3.2; clear bd k3 a3' hGv hF fr3)
          all_goals
            clear x2 p2 hx0 hf hc
            go_wp2
            go_roundg gf
            case measure => omega
            case rel =>
              refine ⟨k + 1, by omega, by omega, by omega, by go_num, ?_, ?_⟩
              · refine (heap_setCell_other _ _ _ _ ?_).trans K3x.out
                intro e
                exact A3x.out.ne K3x.out (grid_no _ _ _) (by simp [Value.ownBlock, e])
              · have h := HSET.out
                rw [HS.out] at h
                exact h
        · have hend : min j n = k := by omega
          have hzz : ¬ (k : Int) < (j : Int) ∨ ((k : Int) < (j : Int) ∧ ¬ (k : Int) < (n : Int)) := by omega
          have x0 := HA.out.1.c0
          have x1 := HA.out.1.c1
          have x2 := HA.out.1.c2
          have q0 := KZ.out.c0
          have q1 := KZ.out.c1
          have q2' := KZ.out.c2
          have qf := KZ.out.z
          have HE := Lib.hid hend
          have hlt1 : w.heap.size + 1 < w1.heap.size := K21.out.lt
          clear hlt hend
          rcases hzz with hz1 | ⟨hz1, hz2⟩
          all_goals
            go_wp2
            refine bodyPost_ret (res2 rfl _ _ _ _ _ _ rfl (KZ.out.put (i : Int) (j : Int) (some ⟨q2, 0, none⟩) j c2)) rfl ?_
            refine ⟨_, _, _, rfl, ?_, below_g3 BW.out (by omega) _ _ _⟩
            have h := (HA.out.2.gv.g3 KZ.out hlt1 (i : Int) (j : Int) (.slice (some ⟨q2, 0, none⟩) j c2)).rebase B1.out
            have hz' := HZ.out
            rw [HE.out] at hz'
            rw [hz'] at h
            exact h
    · rw [resizeR_2 hq hz]
      have eN : newR x y = ⟨2, 0, 0, [], []⟩ := by unfold newR; rw [if_neg hz]; rfl
      rw [eN] at CN
      clear hq hz hs eN
      subst hV
      go_enter Tryd.func26, Tryd.ntmps26
      go_wp2_with fail
      refine CC.out.mono ?_
      rintro e w1 ⟨rfl, b1⟩
      have K21 := Lib.hid (K2.out.below b1)
      have B1 := Lib.hid (BV.out.trans (b1.mono BV.out.size))
      clear b1 CC
      go_wp2_with fail
      refine (CN.out w1).mono ?_
      rintro e w2 ⟨A2, n2, c2, rfl, g2⟩
      have bx := (Below.refl w2.heap.size w2).alloc (Nat.le_refl _) (.cells #[.int .i64 0, .int .i64 0, .slice A2 n2 c2] 24)
      have s2 := g2.bel.trans (bx.mono g2.bel.size)
      have K22 := Lib.hid (K21.out.below s2)
      have B2 := Lib.hid (B1.out.trans (s2.mono B1.out.size))
      have q0 := K22.out.c0
      have q1 := K22.out.c1
      have q2 := K22.out.c2
      have qf := K22.out.z
      clear g2 bx s2 CN
      go_wp2
      refine bodyPost_ret (res2 rfl _ _ _ _ _ _ rfl (K22.out.put 0 0 none 0 0)) rfl ?_
      exact ⟨none, 0, 0, rfl, Gv.nil _ _, below_g3 B2.out (by omega) _ _ _⟩
  · rw [resizeR_1 hq]
    generalize gE W H L = q at hq CC
    have hqb : (((q : Nat) : Int) != 0) = true := nat_ne hq
    clear hs
    subst hV
    go_enter Tryd.func26, Tryd.ntmps26
    go_wp2_with fail
    refine CC.out.mono ?_
    rintro e w1 ⟨rfl, b1⟩
    have K21 := Lib.hid (K2.out.below b1)
    have B1 := Lib.hid (BV.out.trans (b1.mono BV.out.size))
    have q0 := K21.out.c0
    have q1 := K21.out.c1
    have q2 := K21.out.c2
    have qf := K21.out.z
    clear b1 CC
    go_wp2
    refine bodyPost_ret (res2 rfl _ _ _ _ _ _ rfl (K21.out.put 0 0 none 0 0)) rfl ?_
    exact ⟨none, 0, 0, rfl, Gv.nil _ _, below_g3 B1.out (by omega) _ _ _⟩

end Go.Proofs.YtokeaoapcjlmkaaDoor
