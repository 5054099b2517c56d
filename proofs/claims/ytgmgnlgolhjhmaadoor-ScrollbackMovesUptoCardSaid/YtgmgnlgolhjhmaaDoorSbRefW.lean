/-
  The document's own Window of layer 12.
-/
import Derived.Test.YtgmgnlgolhjhmaaDoorSbRef
import Derived.Test.YtgmgnlgolhjhmaaDoorSbWin
import Derived.Test.YtgmgnlgolhjhmaaDoorCrRefFit
import Derived.Deep.RegionLaw
namespace Go.Proofs.YtgmgnlgolhjhmaaDoor
open Go.RowKit Go.Shelf Cr Gd

/-- The rows that are visible, not fitted. -/
def winY (L : List (List C)) (G : List (List C)) (h bk : Nat) : List (List C) := Sb.seen L (h : Int) (bk : Int) ++ G.take ((h : Int) - (bk : Int)).toNat
theorem winY_seen {L : List (List C)} {h bk : Nat} (hb : bk ≤ L.length) : (Sb.seen L (h : Int) (bk : Int)).length = min h bk := by
  unfold Sb.seen
  rw [List.length_take, List.length_drop]
  omega
theorem winY_len {L G : List (List C)} {h bk : Nat} (hb : bk ≤ L.length) (hG : G.length = h) : (winY L G h bk).length = h := by
  unfold winY
  rw [List.length_append, winY_seen hb, List.length_take]
  omega
theorem winY_get {L G : List (List C)} {h bk : Nat} (hb : bk ≤ L.length) (hG : G.length = h) (j : Nat) (hj : j < h) : (winY L G h bk)[j]? = if j < bk then L[L.length - bk + j]? else G[j - bk]? := by
  unfold winY
  have hl := winY_seen (L := L) (h := h) hb
  by_cases c : j < bk
  · rw [if_pos c, List.getElem?_append_left (by omega)]
    unfold Sb.seen
    rw [List.getElem?_take_of_lt (by omega), List.getElem?_drop]
    congr 1
  · rw [if_neg c, List.getElem?_append_right (by omega), hl, List.getElem?_take_of_lt (by omega)]
    congr 1
    omega
theorem win_ok {L G : List (List C)} {v h bk : Nat} (g : Gd.Good v h G) (hb : bk ≤ L.length) (hc : ∀ y ∈ winY L G h bk, check y = 0) : winR L (v : Int) (h : Int) G (bk : Int) = ⟨0, v, h, (winY L G h bk).map (fun y => fit y v), []⟩ := by
  have h0 : Sb.errs check (Sb.seen L (h : Int) (bk : Int)) = 0 := by
    rw [Sb.errs_zero]
    exact fun x hx => hc x (List.mem_append.2 (.inl hx))
  unfold winR
  rw [good_gE g, if_neg (by omega), if_neg (by omega), h0, if_neg (by omega)]
  unfold Sb.rows winY
  rw [List.map_append, Int.toNat_natCast]
  congr 2
  have : ∀ x ∈ G.take ((h : Int) - (bk : Int)).toNat, fit x v = x := fun x hx => by
    have h2 := g.2.2.2.2.2 _ (List.mem_of_mem_take hx)
    rw [← h2.1]; exact fit_self h2.2
  rw [List.map_congr_left (g := id) this, List.map_id]
theorem win_bad {L G : List (List C)} {v h bk : Nat} (g : Gd.Good v h G) (hb : bk ≤ L.length) {ini : List (List C)} {x : List C} (hp : ini ++ [x] <+: winY L G h bk) (hi : ∀ y ∈ ini, check y = 0) (hx : check x ≠ 0) : winR L (v : Int) (h : Int) G (bk : Int) = bad (check x) := by
  have h1 := errs_of_prefix check hp hi hx
  have h2 : Sb.errs check (G.take ((h : Int) - (bk : Int)).toNat) = 0 := by
    rw [Sb.errs_zero]
    exact fun y hy => g.chk (List.mem_of_mem_take hy)
  have h3 : Sb.errs check (Sb.seen L (h : Int) (bk : Int)) = check x := by
    unfold winY at h1
    rw [errs_append, h2] at h1
    split at h1
    · exact h1
    · exact absurd h1.symm hx
  unfold winR
  rw [good_gE g, if_neg (by omega), if_neg (by omega), h3, if_pos hx]
theorem winY_fit {L G : List (List C)} {v h bk : Nat} (g : Gd.Good v h G) (hb : bk ≤ L.length) {j : Nat} (hj : j < h) {x : List C} (hx : (winY L G h bk)[j]? = some x) (hge : ¬ j < bk) : check x = 0 ∧ fit x v = x := by
  rw [winY_get hb g.2.2.2.2.1 j hj, if_neg hge] at hx
  have hm := List.mem_of_getElem? hx
  have h2 := g.2.2.2.2.2 _ hm
  exact ⟨g.chk hm, by rw [← h2.1]; exact fit_self h2.2⟩

/-- An append whose run is known, as a step of a region. -/
theorem step_run {ops : Array Oper} {o : Oper} {a : Act} {K : Act → World → Prop} {Q : Exit → Act → World → Prop} {E : Prop} {w : World} (hgd : o.guard = none) (s x : Operand) (t : TypeId)
    (ho : o.op = .call { callee := .builtin .append, args := #[s, x], argTypes := #[t, t] }) (v u r : Value) (w' : World) (hs : a.eval s = v) (hx : a.eval x = u) (hrun : (Builtin.append_ #[t, t] o.type #[v, u]).run Tryd.prog w = .ok r w') (hK : K (a.put o.dst r) w') :
    if Region.wanted o (yielded ops a.tmps) = true then Oper.wp Tryd.prog o a w K Q else E := by
  have hw : Region.wanted o (yielded ops a.tmps) = true := by simp [Region.wanted, hgd]
  rw [if_pos hw]
  unfold Oper.wp
  simp [execOp, ho, resolve, invoke, builtin, hs, hx, hrun, Result.andThen]
  exact hK

/-- The variables of the document's own Window: the grid, the result, the window so far. -/
def St (w0 W : World) (kg kr ob : Nat) (v h : Int) (A2 : Option Addr) (n2 c2 : Nat) (A1 : Option Addr) (m c1 : Nat) (LL : List (List C)) : Prop :=
  Kg W kg v h A2 n2 c2 ∧ Kg W kr 0 0 none 0 0 ∧ Kg W ob v h A1 m c1 ∧ GR w0 W (.slice A1 m c1) LL ∧ LL.length = m
theorem St.below {w0 W W' : World} {kg kr ob : Nat} {v h : Int} {A2 : Option Addr} {n2 c2 : Nat} {A1 : Option Addr} {m c1 : Nat} {LL : List (List C)} (s : St w0 W kg kr ob v h A2 n2 c2 A1 m c1 LL) (hb : Below W.heap.size W W') : St w0 W' kg kr ob v h A2 n2 c2 A1 m c1 LL :=
  ⟨s.1.below hb, s.2.1.below hb, s.2.2.1.below hb, s.2.2.2.1.below hb, s.2.2.2.2⟩
/-- A row that was made since is appended, and the window's field stored. -/
theorem st_append {w0 U w6 : World} {kg kr ob : Nat} {v h : Int} {A2 : Option Addr} {n2 c2 : Nat} {A1 : Option Addr} {m c1 : Nat} {LL : List (List C)} (s : St w0 U kg kr ob v h A2 n2 c2 A1 m c1 LL) (hm : m ≤ 1000) (h1 : kg < ob) (h2 : kr < ob) (hge : w0.heap.size ≤ ob) {A6 : Option Addr} {n6 c6 : Nat} {x : List C}
    (hg6 : GivesC U w6 A6 n6 c6 x) (hf6 : Fr U A6) (hn6 : n6 ≤ 1000) :
    ∃ (A7 : Option Addr) (c7 : Nat) (w7 : World), (∀ ty, (Builtin.append_ #[22, 22] ty #[.slice A1 m c1, .slice (some ⟨w6.heap.size, 0, none⟩) 1 1]).run Tryd.prog (w6.alloc (.cells #[.slice A6 n6 c6] 25)) = .ok (.slice A7 (m + 1) c7) w7) ∧
      Kg w7 ob v h A1 m c1 ∧ Aside (St w0 (w7.setCell ⟨ob, 2, none⟩ (.slice A7 (m + 1) c7)) kg kr ob v h A2 n2 c2 A7 (m + 1) c7 (LL ++ [x])) := by
  obtain ⟨s1, s2, s3, hG, hl⟩ := s
  have b6 := hg6.2.2
  have G6 := hG.below b6
  have hin := GivesIn hg6.1 hg6.2.1 hn6
  have hy := RdQ.one hin (Off.fresh (m := n6) (c := c6) hG hf6)
  have Gx := G6.alloc (.cells #[.slice A6 n6 c6] 25)
  have bx := b6.trans (((Below.refl w6.heap.size w6).alloc (Nat.le_refl _) (.cells #[.slice A6 n6 c6] 25)).mono b6.size)
  have t1 := s1.below bx
  have t2 := s2.below bx
  have t3 := s3.below bx
  generalize w6.alloc (.cells #[.slice A6 n6 c6] 25) = X at hy Gx bx t1 t2 t3 ⊢
  obtain ⟨A7, c7, w7, hrun, hG7, hg7, _⟩ := run_joinR 22 w0 X _ LL [x] _ 1 1 Gx hy (fun e => by cases e) (by simp; omega)
  have hll : LL.length + ([x] : List (List C)).length = m + 1 := by rw [hl]; rfl
  rw [hll] at hrun hG7
  have u3 := t3.grown Gx hg7
  exact ⟨A7, c7, w7, fun ty => hrun, u3, (t1.grown Gx hg7).other (by omega) _, (t2.grown Gx hg7).other (by omega) _, u3.field _ _ _, hG7.field u3 hge _, by rw [List.length_append, hl]; rfl⟩

set_option maxHeartbeats 8000000 in
set_option maxRecDepth 100000 in
theorem rwindow_any (A : Option Addr) (n c : Nat) (L : List (List C)) (W H : Int) (A2 : Option Addr) (n2 c2 : Nat) (G : List (List C)) (back : Int) (w : World) (hl : RdR w A n L) (hn : n ≤ 1000) (hg : RdR w A2 n2 G) (hn2m : n2 ≤ 9223372036854775807) (hsl : SmR L) (hsg : SmR G) (hzl : Sz L) :
    Calls Tryd.prog 23 #[.slice A n c, .agg #[.int .i64 W, .int .i64 H, .slice A2 n2 c2], .int .i64 back] w (Out2 w (winR L W H G back)) := by
  obtain ⟨V, hV⟩ : ∃ V, (w.alloc (.cells #[.int .i64 W, .int .i64 H, .slice A2 n2 c2] 35)).alloc (.cells #[.int .i64 0, .int .i64 0, .slice none 0 0] 35) = V := ⟨_, rfl⟩
  have hall := two_in w W H A2 n2 c2
  rw [hV] at hall
  have KG := Lib.hid hall.1
  have KR := Lib.hid hall.2.1
  have BV := Lib.hid hall.2.2
  have hlL : L.length = n := hl.1
  have hnz : (n : Int) ≤ 1000 := by omega
  have CC := Lib.hid (rcheck_any W H A2 n2 c2 G V (hg.below hall.2.2) (by omega) hsg)
  obtain ⟨q, hq⟩ : ∃ q, gE W H G = q := ⟨_, rfl⟩
  rw [hq] at CC
  clear hall
  by_cases hq0 : q = 0
  · subst hq0
    by_cases hbk : 0 ≤ back ∧ back ≤ (n : Int)
    · obtain ⟨v, h, rfl, rfl, hgood⟩ := gE_good hq
      obtain ⟨bk, rfl⟩ : ∃ bk : Nat, back = (bk : Int) := ⟨back.toNat, by omega⟩
      have hv1 := hgood.1
      have hv2 := hgood.2.1
      have hh1 := hgood.2.2.1
      have hh2 := hgood.2.2.2.1
      have hGl : G.length = h := hgood.2.2.2.2.1
      have hnh : n2 = h := by have := hg.1; omega
      subst hnh
      obtain ⟨o, ho⟩ : ∃ o, n - bk = o := ⟨_, rfl⟩
      have hbL : bk ≤ L.length := by omega
      obtain ⟨Y, hY⟩ : ∃ Y, winY L G n2 bk = Y := ⟨_, rfl⟩
      have HYL : Hid (Y.length = n2) := Lib.hid (by rw [← hY]; exact winY_len hbL hGl)
      have HOK := Lib.hid (win_ok hgood hbL)
      have HBAD := Lib.hid (fun (ini : List (List C)) (x : List C) => win_bad hgood hbL (ini := ini) (x := x))
      have HFIT := Lib.hid (fun (j : Nat) (hj : j < n2) (x : List C) => winY_fit hgood hbL hj (x := x))
      have HGET := Lib.hid (fun (j : Nat) (hj : j < n2) => winY_get hbL hGl j hj)
      rw [hY] at HOK HBAD HFIT HGET
      have HGS := Lib.hid (fun (x : List C) (hx : x ∈ G) => (⟨hgood.2.2.2.2.2 x hx, hsg x hx⟩ : (x.length = v ∧ Pr x) ∧ Sm x))
      have HLS := Lib.hid (fun (x : List C) (hx : x ∈ L) => (⟨hzl x hx, hsl x hx⟩ : x.length ≤ 1000 ∧ Sm x))
      have HL := Lib.hid (fun U (h : Below w.heap.size w U) => hl.below h)
      have HG := Lib.hid (fun U (h : Below w.heap.size w U) => hg.below h)
      have HLN := Lib.hid hlL
      have HO := Lib.hid ho
      have HVW := Lib.hid (⟨hv1, hv2⟩ : 1 ≤ v ∧ v ≤ 132)
      have z1 : (0 : Int) ≤ (bk : Int) := by omega
      have z4 : decide ((bk : Int) < 0) = false := decide_eq_false (by omega)
      have z5 : ¬ (n : Int) < (bk : Int) := by omega
      have z5b : decide (n < bk) = false := decide_eq_false (by omega)
      have z5c : decide ((n : Int) < (bk : Int)) = false := decide_eq_false (by omega)
      have z6 : (n : Int) - (bk : Int) = (o : Int) := by omega
      have z7 : (n2 : Int) ≤ 60 := by omega
      have z8 : (o : Int) ≤ 1000 := by omega
      obtain ⟨u, hu⟩ : ∃ u, o + n2 = u := ⟨_, rfl⟩
      have z9 : (o : Int) + (n2 : Int) = (u : Int) := by omega
      clear hq hbk hgood hGl hl hg hsl hsg hzl hlL hbL hY ho hv1 hv2 hh1 hh2
      subst hV
      go_enter Tryd.func23, Tryd.ntmps23
      go_wp2_with fail
      refine CC.out.mono ?_
      rintro e w1 ⟨rfl, b1⟩
      obtain ⟨X, hX⟩ : ∃ X, w1.alloc (.cells #[.int .i64 (v : Int), .int .i64 (n2 : Int), .slice none 0 0] 35) = X := ⟨_, rfl⟩
      have bx : Below w1.heap.size w1 X := by rw [← hX]; exact (Below.refl _ _).alloc (Nat.le_refl _) _
      have kx : Kg X w1.heap.size (v : Int) (n2 : Int) none 0 0 := by rw [← hX]; exact heap_alloc_new w1 _
      have B1 := Lib.hid (BV.out.trans (b1.mono BV.out.size))
      have HST0 : Hid (St w X w.heap.size (w.heap.size + 1) w1.heap.size (v : Int) (n2 : Int) A2 n2 c2 none 0 0 []) := Lib.hid ⟨(KG.out.below b1).below bx, (KR.out.below b1).below bx, kx, (GR.start w).below (B1.out.trans (bx.mono B1.out.size)), rfl⟩
      have hlt1 : w.heap.size + 1 < w1.heap.size := (KR.out.below b1).lt
      have p0 := (KG.out.below b1).c0
      have p1 := (KG.out.below b1).c1
      have HBX := Lib.hid bx
      clear kx bx b1 CC
      subst hX
      go_wp2
      clear p0 p1
      go_loopg [9, 10] (n2 + 1) (fun gk v9 _ wr => ∃ j : Nat, gk + j = n2 + 1 ∧ j ≤ n2 ∧ v9 = .int .i64 ((o + j : Nat) : Int) ∧ Aside (∃ A1 c1, St w wr w.heap.size (w.heap.size + 1) w1.heap.size (v : Int) (n2 : Int) A2 n2 c2 A1 j c1 ((Y.take j).map (fun y => fit y v)) ∧ ∀ y ∈ Y.take j, check y = 0))
      case atStart => exact ⟨0, by omega, Nat.zero_le _, rfl, none, 0, HST0.out, fun y hy => by simp at hy⟩
      case round =>
        obtain ⟨j, hgk, hjn, rfl, hA⟩ := hrel
        obtain ⟨A1, c1, hst, hck⟩ := hA.out
        have HS := Lib.hid hst
        have HCK := Lib.hid hck
        have g0 := hst.1.c0
        have g1 := hst.1.c1
        have g2 := hst.1.c2
        obtain ⟨i, hi⟩ : ∃ i, o + j = i := ⟨_, rfl⟩
        rw [hi]
        have hiz : (i : Int) ≤ 1060 := by omega
        have hiz0 : (0 : Int) ≤ (i : Int) := by omega
        clear hA hst hck
        by_cases hlt : j < n2
        · obtain ⟨gf, rfl⟩ : ∃ gf, gk = gf + 1 := ⟨gk - 1, by omega⟩
          have hz : (i : Int) < (u : Int) := by omega
          obtain ⟨x, hx⟩ : ∃ x, Y[j]? = some x := ⟨Y[j]'(by rw [HYL.out]; exact hlt), List.getElem?_eq_getElem _⟩
          have hget := HGET.out j hlt
          rw [hx] at hget
          have htk : Y.take (j + 1) = Y.take j ++ [x] := by rw [List.take_add_one, hx]; rfl
          have HTK := Lib.hid htk
          have hbw := HS.out.2.2.2.1.bel
          have HBW := Lib.hid hbw
          have HN1 := Lib.hid (show i + 1 = o + (j + 1) by omega)
          by_cases hge : j < bk
          · have hzi : decide ((n : Int) ≤ (i : Int)) = false := decide_eq_false (by have := HO.out; omega)
            have hzi2 : ¬ (n : Int) ≤ (i : Int) := by have := HO.out; omega
            rw [if_pos hge] at hget
            have hin : L.length - bk + j = i := by have := HO.out; have := HLN.out; omega
            rw [hin] at hget
            have hil : (i : Int) < (n : Int) := by omega
            obtain ⟨b, off, A', mm, cc, hA1, hblt, hc, hrd, hmc, hnl, hm63⟩ := (HL.out wr hbw).at i x hget.symm
            subst hA1
            have hls := HLS.out x (List.mem_of_getElem? hget.symm)
            have C1 := Lib.hid (refCheckRow_any A' mm cc x wr hrd hm63 hls.2)
            obtain ⟨qq, hqq⟩ : ∃ qq, check x = qq := ⟨_, rfl⟩
            rw [hqq] at C1
            by_cases h0 : qq = 0
            · subst h0
              have hfl : fitL x (v : Int) = fit x v := by have := HVW.out; unfold fitL; rw [if_pos ⟨hqq, by omega, by omega⟩, Int.toNat_natCast]
              have C2 := Lib.hid (fun U (hu : Below wr.heap.size wr U) => reffit_any A' mm cc x (v : Int) U (hrd.below hu) hm63 hls.2)
              rw [hfl] at C2
              have HCX := Lib.hid hqq
              have HN6 : Hid (∀ (n6 : Nat), (fit x v).length = n6 → n6 ≤ 1000) := Lib.hid (fun n6 h => by have := HVW.out; rw [← h, fit_length]; omega)
              have HC := Lib.hid hc
              have HBL := Lib.hid hblt
              clear hx hget hrd hqq hls hfl htk hbw hin
              go_wp2_with fail
              refine C1.out.mono ?_
              rintro e w5 ⟨rfl, b5⟩
              have hs5 := HS.out.below b5
              have C25 := Lib.hid (C2.out w5.drew b5.drew)
              have S5 := Lib.hid (hs5.below (Below.refl _ _).drew : St w w5.drew _ _ _ _ _ _ _ _ _ _ _ _)
              have B5 := Lib.hid b5
              have d0 := hs5.1.c0
              have f1 := hs5.2.2.1.c2
              have hc1 : w5.cell? ⟨b, off + i, none⟩ = some (.slice A' mm cc) := (b5.cell (p := ⟨b, off + i, none⟩) HBL.out).trans hc
              have HW1 := Lib.hid (show w.heap.size < w1.heap.size by omega)
              have HW2 := Lib.hid hlt1
              have HW3 : Hid (w.heap.size ≤ w1.heap.size) := Lib.hid (by omega)
              have HJ : Hid (j ≤ 1000) := Lib.hid (by omega)
              clear hs5 b5 g0 g1 g2 hc
              go_wp2
              go_region_law (first
                | (go_simp; refine C25.out.mono ?_; rintro e w6 ⟨A6, n6, c6, rfl, hg6, hf6⟩; obtain ⟨A7, c7, w7, hrun2, hk7, hst7⟩ := st_append S5.out HJ.out HW1.out HW2.out HW3.out hg6 hf6 (HN6.out n6 hg6.1.1); have HR2 := Lib.hid hrun2; have HS7 := Lib.hid hst7.out; have f3 := (S5.out.below hg6.2.2).2.2.1.c2; have f4 := ((S5.out.below hg6.2.2).below ((Below.refl w6.heap.size w6).alloc (Nat.le_refl _) (.cells #[.slice A6 n6 c6] 25))).2.2.1.c2; have k7 := hk7.c2; have k7z := hk7.z; clear hg6 hf6 hrun2 hst7 hk7)
                | (refine step_run (by rfl) (.tmp 73) (.tmp 81) 22 (by rfl) _ _ _ _ (by rfl) (by rfl) (HR2.out _) ?_))
              all_goals
                clear d0 f1 f3 f4 hc1 k7 k7z
                go_wp2
                go_roundg gf
                case measure => omega
                case rel =>
                  refine ⟨j + 1, by omega, by omega, by rw [← HN1.out]; go_num, A7, c7, ?_, ?_⟩
                  · rw [HTK.out, List.map_append, List.map_cons, List.map_nil]
                    exact HS7.out
                  · rw [HTK.out]
                    intro y hy
                    rcases List.mem_append.1 hy with hy | hy
                    · exact HCK.out y hy
                    · obtain rfl : y = x := by simpa using hy
                      exact HCX.out
            · have hqb : (((qq : Nat) : Int) != 0) = true := nat_ne h0
              have HX := Lib.hid hx
              have HQ := Lib.hid hqq
              clear hget hqq hls htk hin
              go_wp2_with fail
              refine C1.out.mono ?_
              rintro e w5 ⟨rfl, b5⟩
              have hs5 := HS.out.below b5
              have r0 := hs5.2.1.c0
              have r1 := hs5.2.1.c1
              have r2 := hs5.2.1.c2
              have rz := hs5.2.1.z
              go_wp2
              refine bodyPost_ret (res2 rfl _ _ _ _ _ _ rfl (hs5.2.1.put 0 0 none 0 0)) rfl ?_
              have hbad := HBAD.out (Y.take j) x (by rw [← HTK.out]; exact List.take_prefix _ _) HCK.out (by rw [HQ.out]; exact h0)
              rw [HQ.out] at hbad
              exact ⟨none, 0, 0, by rw [hbad]; rfl, by rw [hbad]; exact Gv.nil _ _, below_g3 (k := w.heap.size + 1) hs5.2.2.2.1.bel (Nat.le_succ _) _ _ _⟩
          · have hzi : decide ((n : Int) ≤ (i : Int)) = true := decide_eq_true (by have := HO.out; omega)
            have hzi2 : (n : Int) ≤ (i : Int) := by have := HO.out; omega
            rw [if_neg hge] at hget
            obtain ⟨hcx, hfx⟩ := HFIT.out j hlt x hx hge
            obtain ⟨k, hk⟩ : ∃ k, j - bk = k := ⟨_, rfl⟩
            rw [hk] at hget
            have hik : (i : Int) - (n : Int) = (k : Int) := by have := HO.out; omega
            have hk0 : (0 : Int) ≤ (k : Int) := by omega
            have hkn : (k : Int) < (n2 : Int) := by omega
            have hwk : IntKind.i64.wrap (k : Int) = (k : Int) := by rw [IntKind.wrap_i64]; omega
            have bd : Below wr.heap.size wr wr.drew := (Below.refl _ _).drew
            obtain ⟨b, off, A', mm, cc, hA2, hblt, hc, hrd, hmc, hnl, _⟩ := (HG.out wr.drew (hbw.trans (bd.mono hbw.size))).at k x hget.symm
            subst hA2
            have hmm : mm ≤ 1000 := by have h := (HGS.out x (List.mem_of_getElem? hget.symm)).1.1; have := HVW.out; rw [← hrd.1]; omega
            obtain ⟨g, c3, w2, hrun1, hO2⟩ := copy_run A' mm cc x wr.drew hmm hnl hrd
            have hs1 := HS.out.below bd
            obtain ⟨A7, c7, w7, hrun2, hk7, hst7⟩ := st_append hs1 (by omega) (by omega) (by omega) (by have := B1.out.size; omega) hO2.mine.gives hO2.mine.fr hmm
            have HR1 := Lib.hid hrun1
            have HR2 := Lib.hid hrun2
            have HS7 := Lib.hid hst7.out
            have hcomm : wr.drew.alloc (.cells #[] 46) = (wr.alloc (.cells #[] 46)).drew := rfl
            rw [hcomm] at HR1
            have ba := (Below.refl wr.heap.size wr).alloc (Nat.le_refl _) (.cells #[] 46)
            have b2x := hO2.2
            have b2y := b2x.trans (((Below.refl w2.heap.size w2).alloc (Nat.le_refl _) (.cells #[.slice (some ⟨g, 0, none⟩) mm c3] 25)).mono b2x.size)
            have e2 := (HS.out.below ba).1.c2
            have f1 := HS.out.2.2.1.c2
            have f2 := (HS.out.below ba).2.2.1.c2
            have f3 := (hs1.below b2x).2.2.1.c2
            have f4 := (hs1.below b2y).2.2.1.c2
            have hc1 : wr.cell? ⟨b, off + k, none⟩ = some (.slice A' mm cc) := hc
            have hc2 : (wr.alloc (.cells #[] 46)).cell? ⟨b, off + k, none⟩ = some (.slice A' mm cc) := (ba.cell (p := ⟨b, off + k, none⟩) hblt).trans hc
            have k7 := hk7.c2
            have k7z := hk7.z
            have HCX := Lib.hid hcx
            have HFX := Lib.hid hfx
            clear hx hget hcx hfx hrd hrun1 hrun2 hst7 hO2 hs1 ba b2x b2y bd hk7 htk hbw hcomm hc
            go_wp2
            go_region_law (first | (refine step_run (by rfl) (.tmp 50) (.tmp 58) 25 (by rfl) _ _ _ _ (by rfl) (by rfl) (HR1.out _) ?_) | (refine step_run (by rfl) (.tmp 49) (.tmp 60) 22 (by rfl) _ _ _ _ (by rfl) (by rfl) (HR2.out _) ?_))
            all_goals
              clear e2 f1 f2 f3 f4 hc1 hc2 k7 k7z g0 g1 g2
              go_wp2
              go_roundg gf
              case measure => omega
              case rel =>
                refine ⟨j + 1, by omega, by omega, by rw [← HN1.out]; go_num, A7, c7, ?_, ?_⟩
                · rw [HTK.out, List.map_append, List.map_cons, List.map_nil, HFX.out]
                  exact HS7.out
                · rw [HTK.out]
                  intro y hy
                  rcases List.mem_append.1 hy with hy | hy
                  · exact HCK.out y hy
                  · obtain rfl : y = x := by simpa using hy
                    exact HCX.out
        · have hz : ¬ (i : Int) < (u : Int) := by omega
          have hq : j = n2 := by omega
          subst hq
          have q0 := HS.out.2.2.1.c0
          have q1 := HS.out.2.2.1.c1
          have q2 := HS.out.2.2.1.c2
          have r0 := HS.out.2.1.c0
          have r1 := HS.out.2.1.c1
          have r2 := HS.out.2.1.c2
          have rz := HS.out.2.1.z
          go_wp2
          have hyj : Y.take j = Y := List.take_of_length_le (by rw [HYL.out]; exact Nat.le_refl _)
          have hok := HOK.out (by have := HCK.out; rwa [hyj] at this)
          obtain ⟨s1, s2, s3, s4, s5⟩ := HS.out
          refine bodyPost_ret (res2 rfl _ _ _ _ _ _ rfl (s2.put (v : Int) (j : Int) A1 j c1)) rfl ?_
          have hG5 := s4.g3 s2 (by omega) (v : Int) (j : Int) (.slice A1 j c1)
          rw [hyj] at hG5
          exact ⟨A1, j, c1, by rw [hok]; rfl, by rw [hok]; exact hG5.gv, hG5.bel⟩
    · have HR : Hid (winR L W H G back = bad 2) := Lib.hid (by unfold winR; rw [hq, if_neg (by omega), hlL, if_pos hbk])
      clear hq hl hg hsl hsg hzl hlL
      subst hV
      rcases (by omega : back < 0 ∨ (¬ back < 0 ∧ (n : Int) < back)) with hb | ⟨hb, hb2⟩
      all_goals
        go_enter Tryd.func23, Tryd.ntmps23
        go_wp2_with fail
        refine CC.out.mono ?_
        rintro e w1 ⟨rfl, b1⟩
        have r0 := (KR.out.below b1).c0
        have r1 := (KR.out.below b1).c1
        have r2 := (KR.out.below b1).c2
        have rz := (KR.out.below b1).z
        go_wp2
        refine bodyPost_ret (res2 rfl _ _ _ _ _ _ rfl ((KR.out.below b1).put 0 0 none 0 0)) rfl ?_
        exact ⟨none, 0, 0, by rw [HR.out]; rfl, by rw [HR.out]; exact Gv.nil _ _, below_g3 (k := w.heap.size + 1) (BV.out.trans (b1.mono BV.out.size)) (Nat.le_succ _) _ _ _⟩
  · have hqb : (((q : Nat) : Int) != 0) = true := nat_ne hq0
    have HR : Hid (winR L W H G back = bad 1) := Lib.hid (by unfold winR; rw [hq, if_pos hq0])
    clear hq hl hg hsl hsg hzl hlL
    subst hV
    go_enter Tryd.func23, Tryd.ntmps23
    go_wp2_with fail
    refine CC.out.mono ?_
    rintro e w1 ⟨rfl, b1⟩
    have r0 := (KR.out.below b1).c0
    have r1 := (KR.out.below b1).c1
    have r2 := (KR.out.below b1).c2
    have rz := (KR.out.below b1).z
    go_wp2
    refine bodyPost_ret (res2 rfl _ _ _ _ _ _ rfl ((KR.out.below b1).put 0 0 none 0 0)) rfl ?_
    exact ⟨none, 0, 0, by rw [HR.out]; rfl, by rw [HR.out]; exact Gv.nil _ _, below_g3 (k := w.heap.size + 1) (BV.out.trans (b1.mono BV.out.size)) (Nat.le_succ _) _ _ _⟩

end Go.Proofs.YtgmgnlgolhjhmaaDoor
