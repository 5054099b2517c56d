/-
  The document's own Set and Clear of layer 8.
-/
import Derived.Test.YtokeaoapcjlmkaaDoorGrRefNew
import Derived.Test.YtokeaoapcjlmkaaDoorGrThree
namespace Go.Proofs.YtokeaoapcjlmkaaDoor
open Go.RowKit Go.Shelf Cr Gd

theorem clearR_1 {W H : Int} {L : List (List C)} {f t c : Int} (h : gE W H L ≠ 0) : clearR W H L f t c = bad 1 := by unfold clearR; rw [if_pos h]
theorem clearR_2 {W H : Int} {L : List (List C)} {f t c : Int} (h : gE W H L = 0) (h2 : ¬ (0 ≤ f ∧ f ≤ t ∧ t ≤ H)) : clearR W H L f t c = bad 2 := by unfold clearR; rw [if_neg (by omega), if_pos h2]
theorem clearR_3 {W H : Int} {L : List (List C)} {f t c : Int} (h : gE W H L = 0) (h2 : 0 ≤ f ∧ f ≤ t ∧ t ≤ H) : clearR W H L f t c = ⟨0, W, H, clr L f.toNat t.toNat (blanks W.toNat c), []⟩ := by unfold clearR; rw [if_neg (by omega), if_neg (by omega)]
theorem setR_1 {W H : Int} {L : List (List C)} {row : Int} {l : List C} (h : gE W H L ≠ 0) : setR W H L row l = bad 1 := by unfold setR; rw [if_pos h]
theorem setR_2 {W H : Int} {L : List (List C)} {row : Int} {l : List C} (h : gE W H L = 0) (h2 : ¬ (0 ≤ row ∧ row < H)) : setR W H L row l = bad 2 := by unfold setR; rw [if_neg (by omega), if_pos h2]
theorem setR_3 {W H : Int} {L : List (List C)} {row : Int} {l : List C} (h : gE W H L = 0) (h2 : 0 ≤ row ∧ row < H) : setR W H L row l = if check l ≠ 0 then bad (check l) else if (l.length : Int) ≠ W then bad 12 else ⟨0, W, H, L.set row.toNat l, []⟩ := by unfold setR; rw [if_neg (by omega), if_neg (by omega)]
theorem clr_next {L : List (List C)} {f k : Nat} (bl : List C) (hf : f ≤ k) (hk : k < L.length) : (clr L f k bl).set k bl = clr L f (k + 1) bl := by
  unfold clr
  have h1 : (L.take f ++ List.replicate (k - f) bl).length = k := by rw [List.length_append, List.length_take, List.length_replicate]; omega
  rw [List.set_append_right _ _ (by omega), h1, Nat.sub_self, List.drop_eq_getElem_cons hk, List.set_cons_zero, show k + 1 - f = (k - f) + 1 by omega, List.replicate_succ']
  simp
theorem clr_start {L : List (List C)} {f : Nat} (bl : List C) : clr L f f bl = L := by unfold clr; rw [Nat.sub_self]; simp
theorem wp_joinO2 {o : Oper} {a : Act} {K : Act → World → Prop} {Q : Exit → Act → World → Prop} {ops : Array Oper} {E : Prop} (hgd : o.guard = none) (s x : Operand)
    (ho : o.op = .call { callee := .builtin .append, args := #[s, x], argTypes := #[39, 39] })
    (w0 w : World) (v : Value) (l ys : List C) (b off m c : Nat) (hs : a.eval s = v) (hx : a.eval x = .slice (some ⟨b, off, none⟩) m c) (hv : Own w0 w v l) (hy : Rd w (some ⟨b, off, none⟩) m ys) (hl : l.length + ys.length ≤ 100000) (hne : v ≠ .slice none 0 0)
    (h : ∀ (g c' : Nat) w', Aside (Own w0 w' (.slice (some ⟨g, 0, none⟩) (l.length + ys.length) c') (l ++ ys)) → K (a.put o.dst (.slice (some ⟨g, 0, none⟩) (l.length + ys.length) c')) w') :
    if Region.wanted o (yielded ops a.tmps) = true then Oper.wp Tryd.prog o a w K Q else E := by
  have hw : Region.wanted o (yielded ops a.tmps) = true := by simp [Region.wanted, hgd]
  rw [if_pos hw]
  exact wp_joinO s x ho w0 w v l ys b off m c hs hx hv hy hl hne h

set_option maxHeartbeats 4000000 in
set_option maxRecDepth 100000 in
theorem rclear_any (W H : Int) (A : Option Addr) (n c : Nat) (L : List (List C)) (fr tq f b g : Int) (w : World) (hr : RdR w A n L) (hmax : n ≤ 9223372036854775807) (hs : SmR L) :
    Calls Tryd.prog 24 #[.agg #[.int .i64 W, .int .i64 H, .slice A n c], .int .i64 fr, .int .i64 tq, .agg #[.int .i64 f, .int .i64 b, .int .i64 g]] w fun e w' => Out2 w (clearR W H L fr tq b) e w' := by
  obtain ⟨V, hV⟩ : ∃ V, ((w.alloc (.cells #[.int .i64 W, .int .i64 H, .slice A n c] 24)).alloc (.cells #[.int .i64 f, .int .i64 b, .int .i64 g] 34)).alloc (.cells #[.int .i64 0, .int .i64 0, .slice none 0 0] 24) = V := ⟨_, rfl⟩
  obtain ⟨k1, kA, k2, bV⟩ := three_in w W H A n c f b g
  rw [hV] at k1 kA k2 bV
  have K1 := Lib.hid k1
  have KA := Lib.hid kA
  have K2 := Lib.hid k2
  have BV := Lib.hid bV
  have HR := Lib.hid (fun U (h : Below w.heap.size w U) => hr.below h)
  have CC := Lib.hid (rcheck_any W H A n c L V (hr.below bV) hmax hs)
  clear hr k1 k2 bV kA
  by_cases hq : gE W H L = 0
  · rw [hq] at CC
    by_cases hrow : 0 ≤ fr ∧ fr ≤ tq ∧ tq ≤ H
    · rw [clearR_3 hq hrow]
      obtain ⟨v, h, rfl, rfl, hgood⟩ := gE_good hq
      obtain ⟨r1, r2, r3⟩ := hrow
      obtain ⟨i, rfl⟩ : ∃ i : Nat, fr = (i : Int) := ⟨fr.toNat, by omega⟩
      obtain ⟨j, rfl⟩ : ∃ j : Nat, tq = (j : Int) := ⟨tq.toNat, by omega⟩
      rw [Int.toNat_natCast, Int.toNat_natCast, Int.toNat_natCast]
      have hLn : L.length = h := hgood.2.2.2.2.1
      have hnh : n = h := by have := (HR.out w (Below.refl _ _)).1; omega
      subst hnh
      have hn60 : n ≤ 60 := hgood.2.2.2.1
      have hv := And.intro hgood.1 hgood.2.1
      have hij : i ≤ j := by omega
      have hjn : j ≤ n := by omega
      have CP := Lib.hid (fun U (h : Below w.heap.size w U) => rcopied_any A n c L (by omega) U (HR.out U h) (rows_ok hgood))
      have CB := Lib.hid (fun U => refBlank_any (v : Int) f b g U)
      rw [if_pos (by omega), Int.toNat_natCast] at CB
      have HLB : Hid ((blanks v b).length ≤ 1000) := Lib.hid (by rw [blanks_length]; omega)
      generalize blanks v b = bl at CB HLB ⊢
      have HLn := Lib.hid hLn
      obtain ⟨Z, hZ⟩ : ∃ Z, clr L i j bl = Z := ⟨_, rfl⟩
      rw [hZ]
      have HZ := Lib.hid hZ
      have hjz : (j : Int) ≤ 60 := by omega
      have hi0 : (0 : Int) ≤ (i : Int) := by omega
      have hijz : (i : Int) ≤ (j : Int) := by omega
      have hjnz : (j : Int) ≤ (n : Int) := by omega
      have hnz : (n : Int) ≤ 60 := by omega
      clear hq hgood hs hLn hZ
      subst hV
      go_enter Tryd.func24, Tryd.ntmps24
      go_wp2_with fail
      refine CC.out.mono ?_
      rintro e w1 ⟨rfl, b1⟩
      have K11 := Lib.hid (K1.out.below b1)
      have KA1 := Lib.hid ((b1.block _ (Array.getElem?_eq_some_iff.1 KA.out).1).trans KA.out)
      have K21 := Lib.hid (K2.out.below b1)
      have B1 := Lib.hid (BV.out.trans (b1.mono BV.out.size))
      have p1 := K11.out.c1
      have p2 := K11.out.c2
      clear b1 CC
      go_wp2_with fail
      refine (CP.out w1 B1.out).mono ?_
      rintro e w2 ⟨g2, cap, rfl, hG⟩
      have k12 := K11.out.below hG.bel
      have hGw := hG.rebase B1.out
      have x2 := k12.c2
      have xz := k12.z
      have KX := Lib.hid (k12.field (some ⟨g2, 0, none⟩) n cap)
      have KA2 : Hid ((w2.setCell ⟨w.heap.size, 2, none⟩ (.slice (some ⟨g2, 0, none⟩) n cap)).heap[w.heap.size + 1]? = some (.cells #[.int .i64 f, .int .i64 b, .int .i64 g] 34)) := Lib.hid ((heap_setCell_other w2 _ _ _ (by simp)).trans ((hG.bel.block _ (Array.getElem?_eq_some_iff.1 KA1.out).1).trans KA1.out))
      have KZ2 := Lib.hid ((K21.out.below hG.bel).other (q := w.heap.size) (i := 2) (by omega) (.slice (some ⟨g2, 0, none⟩) n cap))
      have GX := Lib.hid (hGw.field k12 (Nat.le_refl _) (.slice (some ⟨g2, 0, none⟩) n cap))
      clear k12 hG hGw CP p1 p2
      go_wp2
      generalize w2.setCell ⟨w.heap.size, 2, none⟩ (.slice (some ⟨g2, 0, none⟩) n cap) = U at KX KA2 KZ2 GX ⊢
      clear x2 xz
      go_loopg [10] (j + 1) (fun gk v10 wr => ∃ k : Nat, j < gk + k ∧ k ≤ j ∧ i ≤ k ∧ v10 = .int .i64 (k : Int) ∧ Aside (Kg wr w.heap.size (v : Int) (n : Int) (some ⟨g2, 0, none⟩) n cap ∧ wr.heap[w.heap.size + 1]? = some (.cells #[.int .i64 f, .int .i64 b, .int .i64 g] 34) ∧ Kg wr (w.heap.size + 1 + 1) 0 0 none 0 0 ∧ GR w wr (.slice (some ⟨g2, 0, none⟩) n cap) (clr L i k bl)))
      case atStart => exact ⟨i, by omega, hij, Nat.le_refl _, rfl, KX.out, KA2.out, KZ2.out, by rw [clr_start]; exact GX.out⟩
      case round =>
        obtain ⟨k, hgk, hkj, hik, rfl, hA⟩ := hrel
        obtain ⟨kx, ka, kz, hG⟩ := hA.out
        by_cases hlt : k < j
        · obtain ⟨gf, rfl⟩ : ∃ gf, gk = gf + 1 := ⟨gk - 1, by omega⟩
          have hz : (k : Int) < (j : Int) := by omega
          have hz0 : (0 : Int) ≤ (k : Int) := by omega
          have hzn : (k : Int) < (n : Int) := by omega
          have hkn : k < n := by omega
          have CBk := Lib.hid (CB.out wr.drew)
          have x0 := kx.c0
          have x2 := kx.c2
          have a0 := cell_of_row wr _ 0 _ _ _ ka
          have a1 := cell_of_row wr _ 1 _ _ _ ka
          have a2 := cell_of_row wr _ 2 _ _ _ ka
          have HN := Lib.hid (clr_next (L := L) (f := i) (k := k) bl hik (by rw [HLn.out]; exact hkn))
          have KX := Lib.hid kx
          have KAx := Lib.hid ka
          have KZx := Lib.hid kz
          have GX := Lib.hid hG
          clear hA kx ka kz hG
          go_wp2
          go_region_law (go_simp; refine CBk.out.mono ?_; rintro e' w3 ⟨A3, n3, c3, rfl, hGv, hF⟩; have bd := (Below.refl wr.heap.size wr).drew.trans hGv.2.2; have k3 := KX.out.below bd; have y2 := k3.c2; have a3' := GX.out.below bd; have fr3 := a3'.free k hkn; have f3 := fr3.1; have K3x := Lib.hid k3; have KA3 := Lib.hid ((bd.block _ (Array.getElem?_eq_some_iff.1 KAx.out).1).trans KAx.out); have KZ3 := Lib.hid (KZx.out.below bd); have HSET := Lib.hid (a3'.set k _ _ hkn (GivesIn hGv.1 hGv.2.1 (by rw [← hGv.1.1]; exact HLB.out)) (Off.fresh (m := n3) (c := c3) GX.out hF)); have A3x := Lib.hid a3'; obtain ⟨x3, hx3⟩ := fr3.2; clear bd k3 a3' hGv hF fr3)
          all_goals
            clear x0 x2 a0 a1 a2
            go_wp2
            go_roundg gf
            case measure => omega
            case rel =>
              refine ⟨k + 1, by omega, by omega, by omega, by go_num, ?_, ?_, ?_, ?_⟩
              · refine (heap_setCell_other _ _ _ _ ?_).trans K3x.out
                intro e
                exact A3x.out.ne K3x.out (grid_no _ _ _) (by simp [Value.ownBlock, e])
              · refine (heap_setCell_other _ _ _ _ ?_).trans KA3.out
                intro e
                exact A3x.out.ne KA3.out (fun cs fr e => by injection e with _ e _; exact absurd e (by decide)) (by simp [Value.ownBlock, e])
              · refine (heap_setCell_other _ _ _ _ ?_).trans KZ3.out
                intro e
                exact A3x.out.ne KZ3.out (grid_no _ _ _) (by simp [Value.ownBlock, e])
              · have h := HSET.out
                rw [HN.out] at h
                exact h
        · have hz : ¬ (k : Int) < (j : Int) := by omega
          have hk : k = j := by omega
          subst hk
          have x0 := kx.c0
          have x1 := kx.c1
          have x2 := kx.c2
          have q0 := kz.c0
          have q1 := kz.c1
          have q2 := kz.c2
          have qf := kz.z
          have KZ := Lib.hid kz
          have GG := Lib.hid hG
          clear hA kx ka kz hG
          go_wp2
          refine bodyPost_ret (res2 rfl _ _ _ _ _ _ rfl (KZ.out.put (v : Int) (n : Int) (some ⟨g2, 0, none⟩) n cap)) rfl ?_
          refine ⟨_, _, _, rfl, ?_, below_g3 GG.out.bel (by omega) _ _ _⟩
          have h := (GG.out.put3 KZ.out (by omega) (v : Int) (n : Int) (.slice (some ⟨g2, 0, none⟩) n cap)).gv
          rw [HZ.out] at h
          exact h
    · rw [clearR_2 hq hrow]
      have key : fr < 0 ∨ (¬ fr < 0 ∧ tq < fr) ∨ (¬ fr < 0 ∧ ¬ tq < fr ∧ H < tq) := by omega
      clear hq hrow hs
      subst hV
      rcases key with c1 | ⟨c1, c2⟩ | ⟨c1, c2, c3⟩
      all_goals
        go_enter Tryd.func24, Tryd.ntmps24
        go_wp2_with fail
        refine CC.out.mono ?_
        rintro e w1 ⟨rfl, b1⟩
        have K21 := Lib.hid (K2.out.below b1)
        have B1 := Lib.hid (BV.out.trans (b1.mono BV.out.size))
        have p1 := (K1.out.below b1).c1
        have q0 := K21.out.c0
        have q1 := K21.out.c1
        have q2 := K21.out.c2
        have qf := K21.out.z
        clear b1 CC
        go_wp2
        refine bodyPost_ret (res2 rfl _ _ _ _ _ _ rfl (K21.out.put 0 0 none 0 0)) rfl ?_
        exact ⟨none, 0, 0, rfl, Gv.nil _ _, below_g3 B1.out (by omega) _ _ _⟩
  · rw [clearR_1 hq]
    generalize gE W H L = q at hq CC
    have hqb : (((q : Nat) : Int) != 0) = true := nat_ne hq
    clear hs
    subst hV
    go_enter Tryd.func24, Tryd.ntmps24
    go_wp2_with fail
    refine CC.out.mono ?_
    rintro e w1 ⟨rfl, b1⟩
    have K21 := Lib.hid (K2.out.below b1)
    have B1 := Lib.hid (BV.out.trans (b1.mono BV.out.size))
    have q0 := K21.out.c0
    have q1 := K21.out.c1
    have q2 := K21.out.c2
    have qf := K21.out.z
    clear b1 CC
    go_wp2
    refine bodyPost_ret (res2 rfl _ _ _ _ _ _ rfl (K21.out.put 0 0 none 0 0)) rfl ?_
    exact ⟨none, 0, 0, rfl, Gv.nil _ _, below_g3 B1.out (by omega) _ _ _⟩

end Go.Proofs.YtokeaoapcjlmkaaDoor
