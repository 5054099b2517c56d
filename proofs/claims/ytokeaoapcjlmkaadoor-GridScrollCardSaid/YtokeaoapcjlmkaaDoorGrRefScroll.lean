/-
  The document's own Scroll of layer 8.
-/
import Derived.Test.YtokeaoapcjlmkaaDoorGrRefClear
import Derived.Test.YtokeaoapcjlmkaaDoorGrMore
namespace Go.Proofs.YtokeaoapcjlmkaaDoor
open Go.RowKit Go.Shelf Cr Gd

theorem scrollR_1 {W H : Int} {L : List (List C)} {t u d c : Int} (h : gE W H L ≠ 0) : scrollR W H L t u d c = bad 1 := by unfold scrollR; rw [if_pos h]
theorem scrollR_2 {W H : Int} {L : List (List C)} {t u d c : Int} (h : gE W H L = 0) (h2 : ¬ (0 ≤ t ∧ t < u ∧ u ≤ H)) : scrollR W H L t u d c = bad 2 := by unfold scrollR; rw [if_neg (by omega), if_pos h2]
theorem scrollR_3 {W H : Int} {L : List (List C)} {t u d c : Int} (h : gE W H L = 0) (h2 : 0 ≤ t ∧ t < u ∧ u ≤ H) : scrollR W H L t u d c =
    ⟨0, W, H, scr L t.toNat u.toNat (max (lim t u d) 0).toNat (max (-(lim t u d)) 0).toNat (blanks W.toNat c), out L t.toNat (max (lim t u d) 0).toNat⟩ := by unfold scrollR; rw [if_neg (by omega), if_neg (by omega)]
/-- The blocks of the function, and the rows so far. -/
def Sc (w wr : World) (W H : Int) (A : Option Addr) (n c : Nat) (f b g : Int) (p : Nat) (A' : Option Addr) (k c' : Nat) (M : List (List C)) : Prop :=
  Kg wr w.heap.size W H A n c ∧ wr.heap[w.heap.size + 1]? = some (.cells #[.int .i64 f, .int .i64 b, .int .i64 g] 34) ∧ Kg wr (w.heap.size + 1 + 1) 0 0 none 0 0 ∧ Kg wr p W H A' k c' ∧ GR w wr (.slice A' k c') M
theorem Sc.below {w wr wr' : World} {W H : Int} {A : Option Addr} {n c : Nat} {f b g : Int} {p : Nat} {A' : Option Addr} {k c' : Nat} {M : List (List C)} (h : Sc w wr W H A n c f b g p A' k c' M) (hb : Below wr.heap.size wr wr') : Sc w wr' W H A n c f b g p A' k c' M :=
  ⟨h.1.below hb, (hb.block _ (Array.getElem?_eq_some_iff.1 h.2.1).1).trans h.2.1, h.2.2.1.below hb, h.2.2.2.1.below hb, h.2.2.2.2.below hb⟩
/-- A row is appended, and the slice stored. -/
theorem Sc.next {w wr w4 : World} {W H : Int} {A : Option Addr} {n c : Nat} {f b g : Int} {p : Nat} {A' : Option Addr} {k c' : Nat} {M : List (List C)} {A4 : Option Addr} {k4 c4 : Nat} {M4 : List (List C)} (h : Sc w wr W H A n c f b g p A' k c' M) (hp : w.heap.size + 1 + 1 < p) (hG : GR w w4 (.slice A4 k4 c4) M4) (hg : wr.grownBy w4 (Value.slice A' k c').ownBlock) :
    Sc w (w4.setCell ⟨p, 2, none⟩ (.slice A4 k4 c4)) W H A n c f b g p A4 k4 c4 M4 := by
  obtain ⟨h1, h2, h3, h4, h5⟩ := h
  have k1 := h1.grown h5 hg
  have k3 := h3.grown h5 hg
  have k4' := h4.grown h5 hg
  have k2 := (hg.block _ (Array.getElem?_eq_some_iff.1 h2).1 (h5.ne h2 (fun cs fr e => by injection e with _ e _; exact absurd e (by decide)))).trans h2
  exact ⟨k1.other (by omega) _, (heap_setCell_other w4 _ _ _ (by simp only [ne_eq]; omega)).trans k2, k3.other (by omega) _, k4'.field _ _ _, hG.field k4' (by omega) _⟩
theorem Sc.at {w wr w4 : World} {W H : Int} {A : Option Addr} {n c : Nat} {f b g : Int} {p : Nat} {A' : Option Addr} {k c' : Nat} {M : List (List C)} (h : Sc w wr W H A n c f b g p A' k c' M) (hg : wr.grownBy w4 (Value.slice A' k c').ownBlock) : Kg w4 p W H A' k c' := h.2.2.2.1.grown h.2.2.2.2 hg
theorem GRempty (w : World) : GR w (w.alloc (.cells #[] 39)) (.slice (some ⟨w.heap.size, 0, none⟩) 0 0) [] :=
  ⟨[], ⟨rfl, .inr ⟨w.heap.size, 0, #[], rfl, Nat.le_refl _, heap_alloc_new w _, Nat.le_refl _, by unfold maxLen; omega, rfl, rfl⟩⟩, (Below.refl _ _).alloc (Nat.le_refl _) _, fun j h l hj => by simp at hj⟩
theorem In.offw {w wr : World} {v h : Value} {l : List C} {M : List (List C)} (hi : In w h l) (hG : GR w wr v M) : Off v h := hi.off (fun g hg => (hG.own g hg).1)

/-- A row of the argument, laid to be appended. -/
theorem Sc.row {w wr : World} {W H : Int} {A : Option Addr} {n c : Nat} {f b g : Int} {p : Nat} {A' : Option Addr} {k c' : Nat} {M : List (List C)} (h : Sc w wr W H A n c f b g p A' k c' M) {ab ao : Nat} {L : List (List C)} (hR : RdR w (some ⟨ab, ao, none⟩) n L) {q : Nat} {l : List C} (hq : L[q]? = some l) :
    ∃ Ah mh ch, wr.cell? ⟨ab, ao + q, none⟩ = some (.slice Ah mh ch) ∧ RdQ (Off (.slice A' k c')) (wr.alloc (.cells #[.slice Ah mh ch] 39)) (some ⟨wr.heap.size, 0, none⟩) 1 [l] := by
  obtain ⟨b', off, x, e, hlt, hc, hi, _⟩ := hR.2 q l hq
  injection e with e
  injection e with e1 e2
  subst e1 e2
  have hG := h.2.2.2.2
  have hb := hG.bel
  have hi' := hi
  obtain ⟨Ah, mh, ch, rfl, _⟩ := hi'
  exact ⟨Ah, mh, ch, (hb.cell (p := ⟨ab, ao + q, none⟩) hlt).trans hc, RdQ.one (hi.below hb) (hi.offw hG)⟩

set_option maxHeartbeats 16000000 in
set_option maxRecDepth 100000 in
theorem rscroll_any (W H : Int) (A : Option Addr) (n c : Nat) (L : List (List C)) (tp bt by' f b g : Int) (w : World) (hr : RdR w A n L) (hmax : n ≤ 9223372036854775807) (hs : SmR L) :
    Calls Tryd.prog 19 #[.agg #[.int .i64 W, .int .i64 H, .slice A n c], .int .i64 tp, .int .i64 bt, .int .i64 by', .agg #[.int .i64 f, .int .i64 b, .int .i64 g]] w fun e w' => Out3 w (scrollR W H L tp bt by' b) e w' := by
  obtain ⟨V, hV⟩ : ∃ V, ((w.alloc (.cells #[.int .i64 W, .int .i64 H, .slice A n c] 24)).alloc (.cells #[.int .i64 f, .int .i64 b, .int .i64 g] 34)).alloc (.cells #[.int .i64 0, .int .i64 0, .slice none 0 0] 24) = V := ⟨_, rfl⟩
  obtain ⟨k1, kA, k2, bV⟩ := three_in w W H A n c f b g
  rw [hV] at k1 kA k2 bV
  have K1 := Lib.hid k1
  have KA := Lib.hid kA
  have K2 := Lib.hid k2
  have BV := Lib.hid bV
  have HR := Lib.hid hr
  have CC := Lib.hid (rcheck_any W H A n c L V (hr.below bV) hmax hs)
  clear hr k1 k2 bV kA
  by_cases hq : gE W H L = 0
  · rw [hq] at CC
    by_cases hrow : 0 ≤ tp ∧ tp < bt ∧ bt ≤ H
    · rw [scrollR_3 hq hrow]
      obtain ⟨v, h, rfl, rfl, hgood⟩ := gE_good hq
      obtain ⟨r1, r2, r3⟩ := hrow
      obtain ⟨i, rfl⟩ : ∃ i : Nat, tp = (i : Int) := ⟨tp.toNat, by omega⟩
      obtain ⟨j, rfl⟩ : ∃ j : Nat, bt = (j : Int) := ⟨bt.toNat, by omega⟩
      obtain ⟨d, hd⟩ : ∃ d, lim (i : Int) (j : Int) by' = d := ⟨_, rfl⟩
      rw [hd]
      have hLn : L.length = h := hgood.2.2.2.2.1
      have hnh : n = h := by have := HR.out.1; omega
      subst hnh
      have hn60 : n ≤ 60 := hgood.2.2.2.1
      have hn1 : 1 ≤ n := hgood.2.2.1
      have hv := And.intro hgood.1 hgood.2.1
      have hij : i < j := by omega
      have hjn : j ≤ n := by omega
      obtain ⟨s, hs'⟩ : ∃ s, j - i = s := ⟨_, rfl⟩
      have hsz : (j : Int) - (i : Int) = (s : Int) := by omega
      obtain ⟨mn, hmn⟩ : ∃ mn, min by' (s : Int) = mn := ⟨_, rfl⟩
      have hmx : max (-(s : Int)) mn = d := by rw [← hd, ← hmn]; unfold lim; rw [hsz]
      have hd1 : -(s : Int) ≤ d ∧ d ≤ (s : Int) := by rw [← hmx, ← hmn]; omega
      obtain ⟨u, hu⟩ : ∃ u, (max d 0).toNat = u := ⟨_, rfl⟩
      obtain ⟨dn, hdn⟩ : ∃ dn, (max (-d) 0).toNat = dn := ⟨_, rfl⟩
      have hdd : d = (u : Int) - (dn : Int) ∧ (u = 0 ∨ dn = 0) ∧ u + dn ≤ s := by omega
      rw [hu, hdn, Int.toNat_natCast, Int.toNat_natCast, Int.toNat_natCast]
      have hK := fun k => scr_get (L := L) (t := i) (b := j) (u := u) (d := dn) (blanks v b) hij (by omega) (by omega) hdd.2.1 k
      have hKl := scr_length (L := L) (t := i) (b := j) (u := u) (d := dn) (blanks v b) hij (by omega) (by omega)
      have hKr := rows_ok (hgood.scr (t := i) (b := j) (u := u) (d := dn) b hij hjn (by omega))
      have hMl := out_length (L := L) (t := i) (b := j) (u := u) hij (by omega) (by omega)
      have hMg := fun q => out_get L i u q
      have hMr : ∀ l ∈ out L i u, 1 ≤ l.length ∧ l.length ≤ 1000 := fun l hl => rows_ok hgood l (List.mem_of_mem_drop (List.mem_of_mem_take hl))
      have CB := Lib.hid (fun U => refBlank_any (v : Int) f b g U)
      rw [if_pos (by omega), Int.toNat_natCast] at CB
      have HLB : Hid ((blanks v b).length ≤ 1000) := Lib.hid (by rw [blanks_length]; omega)
      generalize scr L i j u dn (blanks v b) = K at hK hKl hKr ⊢
      generalize blanks v b = bl at CB HLB hK ⊢
      generalize out L i u = M at hMl hMg hMr ⊢
      rw [hLn] at hKl
      obtain ⟨ab, ao, rfl⟩ := HR.out.addr (by omega)
      have HK := Lib.hid hK
      have HKl := Lib.hid hKl
      have HKr := Lib.hid hKr
      have HMl := Lib.hid hMl
      have HMg := Lib.hid hMg
      have HMr := Lib.hid hMr
      have HLn := Lib.hid hLn
      have HDD := Lib.hid hdd
      have hi0 : (0 : Int) ≤ (i : Int) := by omega
      have hnz : (n : Int) ≤ 60 := by omega
      have hjz : (j : Int) ≤ 60 := by omega
      have hjn' : (j : Int) ≤ (n : Int) := by omega
      have hij' : (i : Int) < (j : Int) := by omega
      have hszz : (s : Int) ≤ 60 := by omega
      have hud : u ≤ 60 := by omega
      clear hq hgood hs hd hu hdn hK hKl hKr hMl hMg hMr hLn hs' hdd
      obtain ⟨hd1a, hd1b⟩ := hd1
      subst hV
      go_enter Tryd.func19, Tryd.ntmps19
      go_wp2_with fail
      refine CC.out.mono ?_
      rintro e w1 ⟨rfl, b1⟩
      have K11 := Lib.hid (K1.out.below b1)
      have KA1 := Lib.hid ((b1.block _ (Array.getElem?_eq_some_iff.1 KA.out).1).trans KA.out)
      have K21 := Lib.hid (K2.out.below b1)
      have B1 := Lib.hid (BV.out.trans (b1.mono BV.out.size))
      have hp : w.heap.size + 1 + 1 < w1.heap.size := K21.out.lt
      have bx := (Below.refl w1.heap.size w1).alloc (Nat.le_refl _) (.cells #[.int .i64 (v : Int), .int .i64 (n : Int), .slice none 0 0] 24)
      have S0 : Hid (Sc w (w1.alloc (.cells #[.int .i64 (v : Int), .int .i64 (n : Int), .slice none 0 0] 24)) (v : Int) (n : Int) (some ⟨ab, ao, none⟩) n c f b g w1.heap.size none 0 0 []) := Lib.hid ⟨K11.out.below bx, (bx.block _ (Array.getElem?_eq_some_iff.1 KA1.out).1).trans KA1.out, K21.out.below bx, Kg.new w1 (v : Int) (n : Int) none 0 0, GR.none (B1.out.trans (bx.mono B1.out.size))⟩
      have p0 := K11.out.c0
      have p1 := K11.out.c1
      have HP := Lib.hid hp
      clear b1 CC bx hp
      go_wp2
      generalize w1.alloc (.cells #[.int .i64 (v : Int), .int .i64 (n : Int), .slice none 0 0] 24) = U1 at S0 ⊢
      clear p0 p1
      have f0 : decide ((i : Int) < 0) = false := decide_eq_false (by omega)
      have f1 : decide (j ≤ i) = false := decide_eq_false (by omega)
      have f2 : decide (n < j) = false := decide_eq_false (by omega)
      simp only [f0, f1, f2, Bool.or_false]
      clear f0 f1 f2
      go_loopg [15] (n + 1) (fun gk v15 wr => ∃ k : Nat, gk + k = n + 1 ∧ k ≤ n ∧ v15 = .int .i64 (k : Int) ∧ Aside (∃ A' c', Sc w wr (v : Int) (n : Int) (some ⟨ab, ao, none⟩) n c f b g w1.heap.size A' k c' (K.take k)))
      case atStart => exact ⟨0, by omega, Nat.zero_le _, rfl, none, 0, by simpa using S0.out⟩
      case round =>
        obtain ⟨k, hgk, hkn, rfl, hA⟩ := hrel
        obtain ⟨A', c', hSc⟩ := hA.out
        have SC := Lib.hid hSc
        have p1 := hSc.1.c1
        have x2 := hSc.2.2.2.1.c2
        have p0 := hSc.1.c0
        have p2 := hSc.1.c2
        have a0 := cell_of_row wr _ 0 _ _ _ hSc.2.1
        have a1 := cell_of_row wr _ 1 _ _ _ hSc.2.1
        have a2 := cell_of_row wr _ 2 _ _ _ hSc.2.1
        clear hA hSc
        by_cases hlt : k < n
        · obtain ⟨gf, rfl⟩ : ∃ gf, gk = gf + 1 := ⟨gk - 1, by omega⟩
          have hz : (k : Int) < (n : Int) := by omega
          have hz0 : (0 : Int) ≤ (k : Int) := by omega
          have hKk := HK.out k
          have HTK : Hid (∀ l, K[k]? = some l → K.take k ++ [l] = K.take (k + 1)) := Lib.hid (fun l hl => by rw [List.take_add_one, hl]; rfl)
          have HLL : Hid ((K.take k).length = k) := Lib.hid (by rw [List.length_take, HKl.out]; omega)
          generalize K.take k = LL at SC HTK HLL
          by_cases c1 : k < i ∨ j ≤ k
          · rw [if_pos c1] at hKk
            obtain ⟨l, hl⟩ : ∃ l, L[k]? = some l := ⟨L[k]'(by rw [HLn.out]; exact hlt), List.getElem?_eq_getElem _⟩
            have hKl := hKk.trans hl
            clear hKk
            obtain ⟨Ah, mh, ch, hc, hy⟩ := SC.out.row HR.out hl
            have bA := (Below.refl wr.heap.size wr).alloc (Nat.le_refl _) (.cells #[.slice Ah mh ch] 39)
            obtain ⟨X, hX⟩ : ∃ X, (wr.alloc (.cells #[.slice Ah mh ch] 39)).drew = X := ⟨_, rfl⟩
            have bX : Below wr.heap.size wr X := by rw [← hX]; exact bA.drew
            have HY : Hid (RdQ (Off (.slice A' k c')) X (some ⟨wr.heap.size, 0, none⟩) 1 [l]) := Lib.hid (by rw [← hX]; exact hy)
            have SX := Lib.hid (SC.out.below bX)
            have x2a := (SC.out.2.2.2.1.below bA).c2
            have x2x := SX.out.2.2.2.1.c2
            have HL1 : Hid (LL.length + ([l] : List (List C)).length ≤ 100000) := Lib.hid (by rw [HLL.out]; simp; omega)
            have HSU := Lib.hid (HTK.out l hKl)
            clear hl hKl hy bA bX
            have c1' : (k : Int) < (i : Int) ∨ (¬ (k : Int) < (i : Int) ∧ (j : Int) ≤ (k : Int)) := by omega
            clear c1
            rcases c1' with c1 | ⟨c1, c2⟩
            · go_wp2
              go_region_law (refine step_joinR (by rfl) (.tmp 66) (.tmp 72) (by rfl) w X _ LL [l] (some ⟨wr.heap.size, 0, none⟩) 1 1 (by rfl) (by rfl) SX.out.2.2.2.2 HY.out (fun e => by cases e) HL1.out ?_; intro A4 c4 w4 hO4; have O4 := Lib.hid hO4.out.1; have GB := Lib.hid hO4.out.2; have kk := SX.out.at hO4.out.2; have d2 := kk.c2; have dz := kk.z; clear hO4 kk)
              all_goals
                clear x2 x2a x2x hX hc p0 p2 a0 a1 a2
                go_wp2
                go_roundg gf
                case measure => omega
                case rel =>
                  refine ⟨k + 1, by omega, by omega, by go_num, A4, c4, ?_⟩
                  have h := SX.out.next HP.out O4.out GB.out
                  have e : LL.length + ([l] : List (List C)).length = LL.length + 1 := rfl
                  rw [HSU.out, e, HLL.out] at h
                  rw [HLL.out]
                  exact h
            · go_wp2
              go_region_law (refine step_joinR (by rfl) (.tmp 66) (.tmp 72) (by rfl) w X _ LL [l] (some ⟨wr.heap.size, 0, none⟩) 1 1 (by rfl) (by rfl) SX.out.2.2.2.2 HY.out (fun e => by cases e) HL1.out ?_; intro A4 c4 w4 hO4; have O4 := Lib.hid hO4.out.1; have GB := Lib.hid hO4.out.2; have kk := SX.out.at hO4.out.2; have d2 := kk.c2; have dz := kk.z; clear hO4 kk)
              all_goals
                clear x2 x2a x2x hX hc p0 p2 a0 a1 a2
                go_wp2
                go_roundg gf
                case measure => omega
                case rel =>
                  refine ⟨k + 1, by omega, by omega, by go_num, A4, c4, ?_⟩
                  have h := SX.out.next HP.out O4.out GB.out
                  have e : LL.length + ([l] : List (List C)).length = LL.length + 1 := rfl
                  rw [HSU.out, e, HLL.out] at h
                  rw [HLL.out]
                  exact h
          · rw [if_neg c1] at hKk
            have n1 : ¬ (k : Int) < (i : Int) := by omega
            have n2 : ¬ (j : Int) ≤ (k : Int) := by omega
            by_cases c2 : k < i + dn ∨ j ≤ k + u
            · rw [if_pos c2] at hKk
              have hdd := HDD.out
              obtain ⟨z, hzz⟩ : ∃ z, (k : Int) + d = z := ⟨_, rfl⟩
              have hz1 : -60 ≤ z := by omega
              have hz2 : z ≤ 120 := by omega
              have c2' : ¬ (i : Int) ≤ z ∨ ((i : Int) ≤ z ∧ ¬ z < (j : Int)) := by omega
              have hKl : K[k]? = some bl := hKk
              have HSU := Lib.hid (HTK.out bl hKl)
              have HL1 : Hid (LL.length + ([bl] : List (List C)).length ≤ 100000) := Lib.hid (by rw [HLL.out]; simp; omega)
              clear c1 c2 hKk hKl hdd
              rcases c2' with c2 | ⟨c2, c3⟩
              all_goals
                go_wp2
                go_region_law (first
                  | (go_simp; refine (CB.out wr.drew).mono ?_; rintro e' w2 ⟨A2, n2', c2', rfl, hGv, hF⟩; have bd := (Below.refl wr.heap.size wr).drew.trans hGv.2.2; have bA := (Below.refl w2.heap.size w2).alloc (Nat.le_refl _) (.cells #[.slice A2 n2' c2'] 39); have bX := bd.trans (bA.mono bd.size); have x2d := (SC.out.below bd).2.2.2.1.c2; have x2e := (SC.out.below bX).2.2.2.1.c2; have HY := Lib.hid (RdQ.one (GivesIn hGv.1 hGv.2.1 (by rw [← hGv.1.1]; exact HLB.out)) (Off.fresh (m := n2') (c := c2') SC.out.2.2.2.2 hF)); have SX := Lib.hid (SC.out.below bX); clear bd bA bX hGv hF)
                  | (refine step_joinR (by rfl) (.tmp 100) (.tmp 105) (by rfl) w _ _ LL [bl] (some ⟨w2.heap.size, 0, none⟩) 1 1 (by rfl) (by rfl) SX.out.2.2.2.2 HY.out (fun e => by cases e) HL1.out ?_; intro A4 c4 w4 hO4; have O4 := Lib.hid hO4.out.1; have GB := Lib.hid hO4.out.2; have kk := SX.out.at hO4.out.2; have d2 := kk.c2; have dz := kk.z; clear hO4 kk))
                all_goals
                  clear x2 x2d x2e p0 p2 a0 a1 a2
                  go_wp2
                  go_roundg gf
                  case measure => omega
                  case rel =>
                    refine ⟨k + 1, by omega, by omega, by go_num, A4, c4, ?_⟩
                    have h := SX.out.next HP.out O4.out GB.out
                    have e : LL.length + ([bl] : List (List C)).length = LL.length + 1 := rfl
                    rw [HSU.out, e, HLL.out] at h
                    rw [HLL.out]
                    exact h
            · rw [if_neg c2] at hKk
              have hdd := HDD.out
              obtain ⟨kd, hkd⟩ : ∃ kd, k + u - dn = kd := ⟨_, rfl⟩
              have hkz : (k : Int) + d = (kd : Int) := by omega
              have hwk : IntKind.i64.wrap (kd : Int) = (kd : Int) := by rw [IntKind.wrap_i64]; omega
              have c3 : (i : Int) ≤ (kd : Int) := by omega
              have c4' : (kd : Int) < (j : Int) := by omega
              have c5 : (kd : Int) < (n : Int) := by omega
              have c6 : (0 : Int) ≤ (kd : Int) := by omega
              rw [hkd] at hKk
              obtain ⟨l, hl⟩ : ∃ l, L[kd]? = some l := ⟨L[kd]'(by rw [HLn.out]; omega), List.getElem?_eq_getElem _⟩
              have hKl := hKk.trans hl
              clear c1 c2 hKk hdd hkd
              obtain ⟨Ah, mh, ch, hc, hy⟩ := SC.out.row HR.out hl
              have bA := (Below.refl wr.heap.size wr).alloc (Nat.le_refl _) (.cells #[.slice Ah mh ch] 39)
              obtain ⟨X, hX⟩ : ∃ X, (wr.alloc (.cells #[.slice Ah mh ch] 39)).drew = X := ⟨_, rfl⟩
              have bX : Below wr.heap.size wr X := by rw [← hX]; exact bA.drew
              have HY : Hid (RdQ (Off (.slice A' k c')) X (some ⟨wr.heap.size, 0, none⟩) 1 [l]) := Lib.hid (by rw [← hX]; exact hy)
              have SX := Lib.hid (SC.out.below bX)
              have x2a := (SC.out.2.2.2.1.below bA).c2
              have x2x := SX.out.2.2.2.1.c2
              have HL1 : Hid (LL.length + ([l] : List (List C)).length ≤ 100000) := Lib.hid (by rw [HLL.out]; simp; omega)
              have HSU := Lib.hid (HTK.out l hKl)
              clear hl hKl hy bA bX
              go_wp2
              go_region_law (refine step_joinR (by rfl) (.tmp 88) (.tmp 96) (by rfl) w X _ LL [l] (some ⟨wr.heap.size, 0, none⟩) 1 1 (by rfl) (by rfl) SX.out.2.2.2.2 HY.out (fun e => by cases e) HL1.out ?_; intro A4 c4 w4 hO4; have O4 := Lib.hid hO4.out.1; have GB := Lib.hid hO4.out.2; have kk := SX.out.at hO4.out.2; have d2 := kk.c2; have dz := kk.z; clear hO4 kk)
              all_goals
                clear x2 x2a x2x hX hc p0 p2 a0 a1 a2
                go_wp2
                go_roundg gf
                case measure => omega
                case rel =>
                  refine ⟨k + 1, by omega, by omega, by go_num, A4, c4, ?_⟩
                  have h := SX.out.next HP.out O4.out GB.out
                  have e : LL.length + ([l] : List (List C)).length = LL.length + 1 := rfl
                  rw [HSU.out, e, HLL.out] at h
                  rw [HLL.out]
                  exact h
        · have hz : ¬ (k : Int) < (n : Int) := by omega
          have hk : k = n := by omega
          subst hk
          have hKt : K.take k = K := List.take_of_length_le (by rw [HKl.out]; exact Nat.le_refl _)
          rw [hKt] at SC
          have CP := Lib.hid (rcopied_any A' k c' K (by omega) wr SC.out.2.2.2.2.rd.1 HKr.out)
          have pp := SC.out.2.2.2.1
          have B2 := Lib.hid SC.out.2.2.2.2.bel
          clear hKt p0 p2 a0 a1 a2 CB
          go_wp2_with fail
          refine CP.out.mono ?_
          rintro e' w2 ⟨g2, cap, rfl, hG2⟩
          have S2 := SC.out.below hG2.bel
          have k3 := S2.2.2.2.1
          have y2 := k3.c2
          have yz := k3.z
          have HP' := HP.out
          have GW : Hid (GR w (w2.setCell ⟨w1.heap.size, 2, none⟩ (.slice (some ⟨g2, 0, none⟩) k cap)) (.slice (some ⟨g2, 0, none⟩) k cap) K) := Lib.hid ((hG2.rebase B2.out).field k3 (by omega) _)
          have FW := Lib.hid hG2.rd.2
          have KG0 := Lib.hid (S2.1.other (q := w1.heap.size) (i := 2) (by omega) (.slice (some ⟨g2, 0, none⟩) k cap))
          have KZ0 := Lib.hid (S2.2.2.1.other (q := w1.heap.size) (i := 2) (by omega) (.slice (some ⟨g2, 0, none⟩) k cap))
          have KX0 := Lib.hid (k3.field (some ⟨g2, 0, none⟩) k cap)
          have E0 := Lib.hid (GRempty (w2.setCell ⟨w1.heap.size, 2, none⟩ (.slice (some ⟨g2, 0, none⟩) k cap)))
          have HSZ : Hid ((w2.setCell ⟨w1.heap.size, 2, none⟩ (.slice (some ⟨g2, 0, none⟩) k cap)).heap.size = w2.heap.size) := Lib.hid (by simp [World.setCell])
          have HW2 := Lib.hid hG2.bel.size
          have HZw := Lib.hid SC.out.2.2.1.lt
          clear S2 k3 hG2 CP x2 pp HP' p1
          go_wp2
          generalize w2.setCell ⟨w1.heap.size, 2, none⟩ (.slice (some ⟨g2, 0, none⟩) k cap) = X0 at GW KG0 KZ0 KX0 E0 HSZ ⊢
          rw [← HSZ.out]
          have e0 := E0.out
          clear y2 yz
          go_loopg [16, 17] (u + 1) (fun gk v16 v17 wr => ∃ q iq : Nat, u < gk + q ∧ q ≤ u ∧ i + q = iq ∧ v17 = .int .i64 (iq : Int) ∧ ∃ gg cc, v16 = .slice (some ⟨gg, 0, none⟩) q cc ∧ Aside (GR X0 wr (.slice (some ⟨gg, 0, none⟩) q cc) (M.take q)))
          case atStart => exact ⟨0, i, by omega, Nat.zero_le _, rfl, rfl, _, 0, rfl, e0⟩
          case round =>
            obtain ⟨q, iq, hgq, hqu, hiq, rfl, gg, cc, rfl, hA⟩ := hrel
            have hdd := HDD.out
            obtain ⟨zd, hzd⟩ : ∃ zd, (i : Int) + d = zd := ⟨_, rfl⟩
            have hzd1 : -60 ≤ zd := by omega
            have hzd2 : zd ≤ 120 := by omega
            have HA := Lib.hid hA.out
            have BX := Lib.hid (GW.out.bel.trans (HA.out.bel.mono GW.out.bel.size))
            clear hA
            by_cases hlt : q < u
            · obtain ⟨gf, rfl⟩ : ∃ gf, gk = gf + 1 := ⟨gk - 1, by omega⟩
              have hz1 : (iq : Int) < zd := by omega
              have hz2 : (0 : Int) ≤ (iq : Int) := by omega
              have hz3 : (iq : Int) < (k : Int) := by omega
              have hz4 : (iq : Int) ≤ 60 := by omega
              have hMq := HMg.out q
              rw [if_pos hlt, hiq] at hMq
              obtain ⟨l, hl⟩ : ∃ l, L[iq]? = some l := ⟨L[iq]'(by rw [HLn.out]; omega), List.getElem?_eq_getElem _⟩
              have hMl := hMq.trans hl
              obtain ⟨b', off, x, ee, hlt', hc', hi', _⟩ := HR.out.2 iq l hl
              injection ee with ee
              injection ee with e1 e2
              subst e1 e2
              have hi'' := hi'
              obtain ⟨Ah, mh, ch, rfl, _⟩ := hi''
              have hc := (BX.out.cell (p := ⟨ab, ao + iq, none⟩) hlt').trans hc'
              have hoff : Off (.slice (some ⟨gg, 0, none⟩) q cc) (.slice Ah mh ch) := hi'.off (fun g1 hg1 => Nat.le_trans GW.out.bel.size (HA.out.own g1 hg1).1)
              have HY := Lib.hid (RdQ.one (hi'.below BX.out) hoff)
              have HX := Lib.hid (HA.out.alloc (.cells #[.slice Ah mh ch] 39))
              have p2 := (KG0.out.below HA.out.bel).c2
              have HTK : Hid (M.take q ++ [l] = M.take (q + 1)) := Lib.hid (by rw [List.take_add_one, hMl]; rfl)
              have HLL : Hid ((M.take q).length = q) := Lib.hid (by rw [List.length_take, HMl.out]; omega)
              have HIQ := Lib.hid hiq
              generalize M.take q = LL at HX HTK HLL HA
              have HL1 : Hid (LL.length + ([l] : List (List C)).length ≤ 100000) := Lib.hid (by rw [HLL.out]; simp; omega)
              clear hMq hMl hl hc' hi' hoff hdd hiq
              go_wp2_with (at_builtin; refine wpList_joinR rfl (.tmp 121) (.tmp 127) rfl X0 _ _ LL [l] (some ⟨wr.heap.size, 0, none⟩) 1 1 rfl rfl HX.out HY.out (fun e => by cases e) HL1.out ?_; intro A6 c6 w6 hO6; have HO6 := Lib.hid hO6.out.1; clear hO6)
              have hs : ∃ g6, A6 = some ⟨g6, 0, none⟩ := by
                rcases HO6.out.slice with ⟨e, e0⟩ | ⟨g6, cap, e, _⟩
                · have := congrArg List.length e0
                  simp at this
                · injection e with e
                  exact ⟨g6, e⟩
              obtain ⟨g6, rfl⟩ := hs
              go_roundg gf
              case measure => omega
              case rel =>
                have h := HO6.out
                rw [HTK.out] at h
                have e : LL.length + ([l] : List (List C)).length = q + 1 := by rw [HLL.out]; rfl
                rw [e] at h
                refine ⟨q + 1, iq + 1, by omega, by omega, by have := HIQ.out; omega, by go_num, g6, c6, ?_, h⟩
                rw [HLL.out]
            · have hqu' : q = u := by omega
              subst hqu'
              have hz1 : ¬ (iq : Int) < zd := by omega
              have hMt : M.take q = M := List.take_of_length_le (by rw [HMl.out]; exact Nat.le_refl _)
              rw [hMt] at HA
              have CP := Lib.hid (rcopied_any (some ⟨gg, 0, none⟩) q cc M (by omega) wr.drew HA.out.rd.1.drew HMr.out)
              have KX := Lib.hid (KX0.out.below HA.out.bel)
              have x0 := KX.out.c0
              have x1 := KX.out.c1
              have x2 := KX.out.c2
              have KZ := Lib.hid (KZ0.out.below HA.out.bel)
              have GK := Lib.hid (GW.out.rd.1.below HA.out.bel)
              clear hMt hdd
              go_wp2
              go_region_law (go_simp; refine CP.out.mono ?_; rintro e' w5 ⟨g5, cap5, rfl, hG5⟩; have bd := (Below.refl wr.heap.size wr).drew.trans hG5.bel; have kx5 := KX.out.below bd; have y0 := kx5.c0; have y1 := kx5.c1; have y2 := kx5.c2; have kz5 := KZ.out.below bd; have q0 := kz5.c0; have q1 := kz5.c1; have q2 := kz5.c2; have qf := kz5.z; have KZ5 := Lib.hid kz5; have G5 := Lib.hid hG5; have GK5 := Lib.hid (GK.out.below bd); have BD := Lib.hid bd; clear bd kx5 kz5 hG5)
              all_goals
                go_wp2
                refine bodyPost_ret (res3 rfl _ _ _ _ _ _ rfl (KZ5.out.put (v : Int) (k : Int) (some ⟨g2, 0, none⟩) k cap)) rfl ?_
                have hv5 : Gv w w5 (some ⟨g2, 0, none⟩) k cap K := ⟨GK5.out, ⟨FW.out.1, FW.out.2.1⟩, fun p e => Nat.le_trans B2.out.size (FW.out.2.2 p e)⟩
                have hne : ∀ p, (some (⟨g2, 0, none⟩ : Addr)) = some p → p.block ≠ w.heap.size + 1 + 1 := fun p e => by
                  have h1 := FW.out.2.2 p e
                  have h2 := HZw.out
                  omega
                have hlt5 : w.heap.size + 1 + 1 < wr.drew.heap.size := KZ.out.lt
                refine ⟨_, _, _, _, _, _, rfl, ⟨hv5.1.g3 KZ5.out hne _ _ _, hv5.2⟩, ((G5.out.gv.g3 KZ5.out hlt5 _ _ _).rebase BX.out.drew), below_g3 (BX.out.trans (BD.out.mono BX.out.size)) (by omega) _ _ _⟩
    · rw [scrollR_2 hq hrow]
      have key : tp < 0 ∨ (¬ tp < 0 ∧ bt ≤ tp) ∨ (¬ tp < 0 ∧ ¬ bt ≤ tp ∧ H < bt) := by omega
      clear hq hrow hs
      subst hV
      rcases key with c1 | ⟨c1, c2⟩ | ⟨c1, c2, c3⟩
      all_goals
        go_enter Tryd.func19, Tryd.ntmps19
        go_wp2_with fail
        refine CC.out.mono ?_
        rintro e w1 ⟨rfl, b1⟩
        have K21 := Lib.hid (K2.out.below b1)
        have B1 := Lib.hid (BV.out.trans (b1.mono BV.out.size))
        have p1 := (K1.out.below b1).c1
        have q0 := K21.out.c0
        have q1 := K21.out.c1
        have q2 := K21.out.c2
        have qf := K21.out.z
        clear b1 CC
        go_wp2
        refine bodyPost_ret (res3 rfl _ _ _ _ _ _ rfl (K21.out.put 0 0 none 0 0)) rfl ?_
        exact ⟨none, 0, 0, none, 0, 0, rfl, Gv.nil _ _, Gv.nil _ _, below_g3 B1.out (by omega) _ _ _⟩
  · rw [scrollR_1 hq]
    generalize gE W H L = q at hq CC
    have hqb : (((q : Nat) : Int) != 0) = true := nat_ne hq
    clear hs
    subst hV
    go_enter Tryd.func19, Tryd.ntmps19
    go_wp2_with fail
    refine CC.out.mono ?_
    rintro e w1 ⟨rfl, b1⟩
    have K21 := Lib.hid (K2.out.below b1)
    have B1 := Lib.hid (BV.out.trans (b1.mono BV.out.size))
    have q0 := K21.out.c0
    have q1 := K21.out.c1
    have q2 := K21.out.c2
    have qf := K21.out.z
    clear b1 CC
    go_wp2
    refine bodyPost_ret (res3 rfl _ _ _ _ _ _ rfl (K21.out.put 0 0 none 0 0)) rfl ?_
    exact ⟨none, 0, 0, none, 0, 0, rfl, Gv.nil _ _, Gv.nil _ _, below_g3 B1.out (by omega) _ _ _⟩

end Go.Proofs.YtokeaoapcjlmkaaDoor
