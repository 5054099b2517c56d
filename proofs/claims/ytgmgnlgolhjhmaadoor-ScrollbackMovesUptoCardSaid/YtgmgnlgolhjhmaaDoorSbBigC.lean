/-
  The document's own check of a row, and the statements' own check of rows, where the texts are long.
-/
import Derived.Test.YtgmgnlgolhjhmaaDoorSbLaws
import Derived.Test.YtgmgnlgolhjhmaaDoorBigAll
namespace Go.Proofs.YtgmgnlgolhjhmaaDoor
open Go.RowKit Go.Shelf Cr Gd

set_option maxHeartbeats 4000000 in
set_option maxRecDepth 100000 in
theorem refCheckRow_big (A : Option Addr) (n c : Nat) (l : List C) (w : World) (hr : Rd w A n l) (ht : ∀ x ∈ l, x.t.size ≤ 1048576) :
    Calls Tryd.prog 38 #[.slice A n c] w fun e w' => e = .returned (.int .i64 (check l : Nat)) ∧ Below w.heap.size w w' := by
  have hl : l.length = n := hr.1
  by_cases h : 1 ≤ n ∧ n ≤ 132
  · have hck : check l = scan l := by unfold check; rw [if_neg (by omega)]
    rw [hck]
    have HR := Lib.hid hr
    have HX := Lib.hid ht
    have HL := Lib.hid hl
    have hn0 : ¬ (n : Int) < 1 := by omega
    have hn2 : ¬ (132 : Int) < (n : Int) := by omega
    have hn1 : (n : Int) ≤ 132 := by omega
    obtain ⟨sc, hsc⟩ : ∃ sc, scan l = sc := ⟨_, rfl⟩
    rw [hsc]
    have HSC := Lib.hid hsc
    clear hck hr ht hl hsc
    go_enter Tryd.func38, Tryd.ntmps38
    go_wp2
    go_loopg [3, 4] (n + 1) (fun gk v3 _ wr => ∃ k : Nat, n < gk + k ∧ k ≤ n ∧ v3 = .int .i64 (k : Int) ∧ Aside (Below w.heap.size w wr ∧ scan l = scan (l.drop k)))
    case atStart => exact ⟨0, by omega, Nat.zero_le _, rfl, Below.refl _ _, rfl⟩
    case round =>
      obtain ⟨k, hg, hkn, rfl, hA⟩ := hrel
      by_cases hlt : k < n
      · obtain ⟨gf, rfl⟩ : ∃ gf, gk = gf + 1 := ⟨gk - 1, by omega⟩
        have hz : (k : Int) < (n : Int) := by omega
        have hz0 : (0 : Int) ≤ (k : Int) := by omega
        have hkl : k < l.length := by rw [HL.out]; exact hlt
        obtain ⟨x, hx⟩ : ∃ x, l[k]? = some x := ⟨l[k], List.getElem?_eq_getElem hkl⟩
        obtain ⟨b, off, rfl, _, p0, p1, p2, p3, p4⟩ := (HR.out.below hA.out.1).at k x hx
        have HAT := Lib.hid (fun W' (h : Below w.heap.size w W') => (HR.out.below h).at k x hx)
        have hxs := HX.out x (List.mem_of_getElem? hx)
        have STOP := Lib.hid (fun (q : Nat) (hq : front x (l.drop (k + 1)) = q) (h0 : q ≠ 0) => HSC.out.symm.trans (scan_stop hA.out.2 hx hq h0))
        have ON := Lib.hid (fun (j : Nat) (hq : front x (l.drop (k + 1)) = 0) (hj : x.w = (j : Int)) (h1 : 1 ≤ j) => scan_on hA.out.2 hx hq hj h1)
        have CC := Lib.hid (fun W' => Big.refcheck_any x.t W' hxs)
        have CW := Lib.hid (fun W' => Big.refwidth_cl x.t W' hxs)
        have HB := Lib.hid hA.out.1
        obtain ⟨e0, he0⟩ : ∃ e0 : Nat, chk x.t = e0 := ⟨_, rfl⟩
        rw [show Cl.chk x.t.data.toList = e0 from he0] at CC
        obtain ⟨y, hy⟩ : ∃ y, wd x.t = y := ⟨_, rfl⟩
        rw [show Cl.widthC x.t.data.toList = y from hy] at CW
        clear hA hx
        by_cases hw : x.w ≠ 1 ∧ x.w ≠ 2
        · have x1 : (x.w != 1) = true := by simpa using hw.1
          have x2 : (x.w != 2) = true := by simpa using hw.2
          have HE := Lib.hid (STOP.out 12 (front_w hw) (by decide))
          go_wp2
          go_ret
          exact ⟨ret_int (by rw [HE.out]; rfl), HB.out⟩
        · have hw12 : x.w = 1 ∨ x.w = 2 := by omega
          by_cases hc : e0 ≠ 0
          · have cb : (((e0 : Nat) : Int) != 0) = true := nat_ne hc
            have HE := Lib.hid (STOP.out 3 (front_c hw12 (by omega)) (by decide))
            clear he0 hy
            rcases hw12 with hw1 | hw1
            all_goals
              rw [hw1] at p1
              go_wp2_with fail
              refine (CC.out _).mono ?_
              rintro e w1 ⟨rfl, b1⟩
              have B1 := Lib.hid (HB.out.trans (b1.mono HB.out.size))
              clear b1
              go_wp2
              go_ret
              exact ⟨ret_int (by rw [HE.out]; rfl), B1.out⟩
          · have hc0 : e0 = 0 := by omega
            subst hc0
            by_cases hd : y ≠ x.w
            · have db : (y != x.w) = true := by simpa using hd
              have HE := Lib.hid (STOP.out 12 (front_d hw12 he0 (by rw [hy]; exact hd)) (by decide))
              clear he0 hy
              have hw12b : (x.w != 1 && x.w != 2) = false := by rcases hw12 with h | h <;> rw [h] <;> rfl
              rcases hw12 with hw1 | hw1
              all_goals
                rw [hw1] at p1 db
                go_wp2_with fail
                refine (CC.out _).mono ?_
                rintro e w1 ⟨rfl, b1⟩
                have B1 := Lib.hid (HB.out.trans (b1.mono HB.out.size))
                obtain ⟨b', off', e1, _, r0, _⟩ := HAT.out w1 B1.out
                injection e1 with e1
                injection e1 with e1 e2
                subst e1 e2
                clear b1
                go_wp2_with fail
                refine (CW.out _).mono ?_
                rintro e w2 ⟨rfl, b2⟩
                have B2 := Lib.hid (B1.out.trans (b2.mono B1.out.size))
                clear b2
                go_wp2
                go_ret
                exact ⟨ret_int (by rw [HE.out]; rfl), B2.out⟩
            · have hyx : y = x.w := by omega
              rcases hw12 with hw1 | hw1
              · have HE := Lib.hid (ON.out 1 (front_1 hw1 he0 (by rw [hy]; exact hyx)) hw1 (Nat.le_refl _))
                rw [hw1] at p1 hyx
                subst hyx
                clear he0 hy
                go_wp2_with fail
                refine (CC.out _).mono ?_
                rintro e w1 ⟨rfl, b1⟩
                have B1 := Lib.hid (HB.out.trans (b1.mono HB.out.size))
                obtain ⟨b', off', e1, _, r0, _⟩ := HAT.out w1 B1.out
                injection e1 with e1
                injection e1 with e1 e2
                subst e1 e2
                clear b1
                go_wp2_with fail
                refine (CW.out _).mono ?_
                rintro e w2 ⟨rfl, b2⟩
                have B2 := Lib.hid (B1.out.trans (b2.mono B1.out.size))
                clear b2
                go_wp2
                go_roundg gf
                case measure => omega
                case rel => exact ⟨k + 1, by omega, by omega, by go_num, B2.out, HE.out⟩
              · rw [hw1] at p1
                have hdn := HL.out
                by_cases hend : k + 1 = n
                · have hnone : l[k + 1]? = none := List.getElem?_eq_none (by omega)
                  have HE := Lib.hid (STOP.out 12 (front_2 hw1 he0 (by rw [hy]; exact hyx) (by rw [head_drop, hnone]; simp)) (by decide))
                  have hendb : ((k : Int) + 1 == (n : Int)) = true := beq_iff_eq.2 (by omega)
                  rw [hw1] at hyx
                  subst hyx
                  clear he0 hy hend hnone
                  go_wp2_with fail
                  refine (CC.out _).mono ?_
                  rintro e w1 ⟨rfl, b1⟩
                  have B1 := Lib.hid (HB.out.trans (b1.mono HB.out.size))
                  obtain ⟨b', off', e1, _, r0, _⟩ := HAT.out w1 B1.out
                  injection e1 with e1
                  injection e1 with e1 e2
                  subst e1 e2
                  clear b1
                  go_wp2_with fail
                  refine (CW.out _).mono ?_
                  rintro e w2 ⟨rfl, b2⟩
                  have B2 := Lib.hid (B1.out.trans (b2.mono B1.out.size))
                  clear b2
                  go_wp2
                  go_region
                  go_wp2
                  go_ret
                  exact ⟨ret_int (by rw [HE.out]; rfl), B2.out.drew⟩
                · have hk1l : k + 1 < l.length := by omega
                  obtain ⟨d, hd1⟩ : ∃ d, l[k + 1]? = some d := ⟨l[k + 1], List.getElem?_eq_getElem hk1l⟩
                  have HAD := Lib.hid (fun W' (h : Below w.heap.size w W') => (HR.out.below h).at (k + 1) d hd1)
                  have hendb : ((k : Int) + 1 == (n : Int)) = false := beq_eq_false_iff_ne.2 (by omega)
                  obtain ⟨k1, hk1⟩ : ∃ k1, k + 1 = k1 := ⟨_, rfl⟩
                  rw [hk1] at HAD
                  have hk1z : (k : Int) + 1 = (k1 : Int) := by omega
                  have hk1n : (k1 : Int) < (n : Int) := by omega
                  have hk10 : (0 : Int) ≤ (k1 : Int) := by omega
                  have hwk : IntKind.i64.wrap (k1 : Int) = (k1 : Int) := by rw [IntKind.wrap_i64]; omega
                  have hendb2 : ((k1 : Int) == (n : Int)) = false := beq_eq_false_iff_ne.2 (by omega)
                  obtain ⟨q, hq⟩ : ∃ q, decide (d = half x) = q := ⟨_, rfl⟩
                  have hneq := fun W => neq_cell d.t ⟨#[]⟩ d.w 0 d.f x.f d.b x.b d.g x.g W
                  have hdec : decide ((⟨d.t, d.w, d.f, d.b, d.g⟩ : C) = ⟨⟨#[]⟩, 0, x.f, x.b, x.g⟩) = q := hq
                  rw [hdec] at hneq
                  have HQ := Lib.hid hq
                  have HS := Lib.hid (fun (h : d ≠ half x) => STOP.out 12 (front_2 hw1 he0 (by rw [hy]; exact hyx) (by rw [head_drop, hd1]; exact fun e => h (Option.some.inj e))) (by decide))
                  have HN := Lib.hid (fun (h : d = half x) => ON.out 2 (front_3 hw1 he0 (by rw [hy]; exact hyx) (by rw [head_drop, hd1, h])) hw1 (by decide))
                  have HK1 := Lib.hid hk1
                  rw [hw1] at hyx
                  subst hyx
                  clear he0 hy hd1 hq hdec hk1
                  go_wp2_with fail
                  refine (CC.out _).mono ?_
                  rintro e w1 ⟨rfl, b1⟩
                  have B1 := Lib.hid (HB.out.trans (b1.mono HB.out.size))
                  obtain ⟨b', off', e1, _, r0, _⟩ := HAT.out w1 B1.out
                  injection e1 with e1
                  injection e1 with e1 e2
                  subst e1 e2
                  clear b1 p0 p1 p2 p3 p4
                  go_wp2_with fail
                  refine (CW.out _).mono ?_
                  rintro e w2 ⟨rfl, b2⟩
                  have B2 := Lib.hid (B1.out.trans (b2.mono B1.out.size))
                  obtain ⟨b', off', e1, _, _, _, s2, s3, s4⟩ := HAT.out w2 B2.out
                  injection e1 with e1
                  injection e1 with e1 e2
                  subst e1 e2
                  obtain ⟨b', off', e1, _, u0, u1, u2, u3, u4⟩ := HAD.out w2 B2.out
                  injection e1 with e1
                  injection e1 with e1 e2
                  subst e1 e2
                  clear b2 r0 HAT HAD CC CW
                  go_wp2
                  go_region
                  clear u0 u1 u2 u3 u4 s2 s3 s4 hneq
                  cases q
                  · have HE := Lib.hid (HS.out (of_decide_eq_false HQ.out))
                    go_wp2
                    go_ret
                    exact ⟨ret_int (by rw [HE.out]; rfl), B2.out.drew⟩
                  · have HE := Lib.hid (HN.out (of_decide_eq_true HQ.out))
                    go_wp2
                    go_roundg gf
                    case measure => omega
                    case rel => exact ⟨k + 2, by omega, by have := HK1.out; omega, by have := HK1.out; go_num, B2.out.drew, HE.out⟩
      · have hz : ¬ (k : Int) < (n : Int) := by omega
        have hq : k = n := by omega
        subst hq
        have e0 : sc = 0 := by
          rw [← HSC.out, hA.out.2, List.drop_of_length_le (by rw [HL.out]; exact Nat.le_refl _)]
          rfl
        have HE := Lib.hid e0
        clear e0
        go_wp2
        go_ret
        exact ⟨ret_int (by rw [HE.out]; rfl), hA.out.1⟩
  · have hck : check l = 5 := by unfold check; rw [if_pos (by omega)]
    rw [hck]
    have hor : (n : Int) < 1 ∨ (¬ (n : Int) < 1 ∧ (132 : Int) < (n : Int)) := by omega
    rcases hor with h1 | ⟨h1, h2⟩
    · go_enter Tryd.func38, Tryd.ntmps38
      go_wp2
      go_ret
      exact ⟨rfl, Below.refl _ _⟩
    · go_enter Tryd.func38, Tryd.ntmps38
      go_wp2
      go_ret
      exact ⟨rfl, Below.refl _ _⟩

set_option maxHeartbeats 1000000 in
set_option maxRecDepth 100000 in
theorem proper_any (A : Option Addr) (n c : Nat) (L : List (List C)) (w : World) (hr : RdR w A n L) (hmax : n ≤ 9223372036854775807) (hs : ∀ l ∈ L, ∀ x ∈ l, x.t.size ≤ 1048576) :
    Calls Tryd.prog 26 #[.slice A n c] w fun e w' => e = .returned (.bool (L.all (fun l => check l == 0) && !greatS L)) ∧ Below w.heap.size w w' := by
  have hl : L.length = n := hr.1
  obtain ⟨R, hR⟩ : ∃ R, L.all (fun l => check l == 0) = R := ⟨_, rfl⟩
  rw [hR]
  have HRR := Lib.hid hR
  have HR := Lib.hid hr
  have HL := Lib.hid hl
  have HS := Lib.hid hs
  have hn : (n : Int) ≤ 9223372036854775807 := by omega
  clear hR hr hl hs hmax
  go_enter Tryd.func26, Tryd.ntmps26
  go_wp2
  go_loopg [4, 7] (n + 1) (fun gk _ v7 wr => ∃ k : Nat, gk + k = n + 1 ∧ k ≤ n ∧ v7 = .int .i64 (k : Int) ∧ Aside (Below w.heap.size w wr ∧ ∀ (j : Nat) x, j < k → L[j]? = some x → check x = 0))
  case atStart => exact ⟨0, by omega, Nat.zero_le _, rfl, Below.refl _ _, fun j x hj => by omega⟩
  case round =>
    obtain ⟨k, hg, hkn, rfl, hA⟩ := hrel
    have HB := Lib.hid hA.out.1
    have HO := Lib.hid hA.out.2
    clear hA
    by_cases hlt : k < n
    · obtain ⟨gf, rfl⟩ : ∃ gf, gk = gf + 1 := ⟨gk - 1, by omega⟩
      have hz : (k : Int) < (n : Int) := by omega
      have hz0 : (0 : Int) ≤ (k : Int) := by omega
      obtain ⟨l, hx⟩ : ∃ l, L[k]? = some l := ⟨L[k]'(by rw [HL.out]; exact hlt), List.getElem?_eq_getElem _⟩
      obtain ⟨b, off, A', m, c', rfl, _, hc, hrd, _⟩ := (HR.out.below HB.out).at k l hx
      have CG := Lib.hid (refCheckRow_big A' m c' l wr hrd (HS.out l (List.mem_of_getElem? hx)))
      have HX := Lib.hid hx
      clear hx hrd
      obtain ⟨q, hq⟩ : ∃ q, check l = q := ⟨_, rfl⟩
      rw [hq] at CG
      have HQ := Lib.hid hq
      clear hq
      by_cases h0 : q = 0
      · subst h0
        go_wp2_with fail
        refine CG.out.mono ?_
        rintro e w1 ⟨rfl, b1⟩
        have B1 := Lib.hid (HB.out.trans (b1.mono HB.out.size))
        clear b1
        go_wp2
        go_roundg gf
        case measure => omega
        case rel =>
          refine ⟨k + 1, by omega, by omega, by go_num, B1.out, fun j y hj hy => ?_⟩
          by_cases e : j = k
          · subst e
            rw [HX.out] at hy
            injection hy with hy
            rw [← hy]; exact HQ.out
          · exact HO.out j y (by omega) hy
      · have hne : (((q : Nat) : Int) != 0) = true := nat_ne h0
        have hRf : R = false := by
          rw [← HRR.out, List.all_eq_false]
          exact ⟨l, List.mem_of_getElem? HX.out, by rw [HQ.out]; simpa using h0⟩
        subst hRf
        go_wp2_with fail
        refine CG.out.mono ?_
        rintro e w1 ⟨rfl, b1⟩
        have B1 := Lib.hid (HB.out.trans (b1.mono HB.out.size))
        clear b1
        go_wp2
        go_ret
        exact ⟨rfl, B1.out⟩
    · have hz : ¬ (k : Int) < (n : Int) := by omega
      have hq : k = n := by omega
      subst hq
      have hRt : R = true := by
        rw [← HRR.out, List.all_eq_true]
        intro x hx
        obtain ⟨j, hj⟩ := List.getElem?_of_mem hx
        have hjl := (List.getElem?_eq_some_iff.1 hj).1
        have := HO.out j x (by rw [← HL.out]; exact hjl) hj
        simp [this]
      subst hRt
      have CS := Lib.hid (greatS_any A k c L wr (HR.out.below HB.out))
      cases hgs : greatS L
      · rw [hgs, if_neg (by decide)] at CS
        go_wp2_with fail
        refine CS.out.mono ?_
        rintro e w1 ⟨rfl, rfl⟩
        go_wp2
        go_ret
        exact ⟨by rw [hgs]; rfl, HB.out⟩
      · rw [hgs, if_pos rfl] at CS
        go_wp2_with fail
        refine CS.out.mono ?_
        rintro e w1 ⟨rfl, rfl⟩
        go_wp2
        go_ret
        exact ⟨by rw [hgs]; rfl, HB.out⟩

/-- A window of proper rows. -/
theorem win_rows {L G : List (List C)} {v h bk : Nat} (g : Gd.Good v h G) (hb : bk ≤ L.length) (hc : ∀ y ∈ L, check y = 0) : winR L (v : Int) (h : Int) G (bk : Int) = ⟨0, v, h, Sb.rows (fun y => fit y v) L G (h : Int) (bk : Int), []⟩ := by
  have h0 : Sb.errs check (Sb.seen L (h : Int) (bk : Int)) = 0 := by
    rw [Sb.errs_zero]
    exact fun x hx => hc x (List.mem_of_mem_drop (List.mem_of_mem_take hx))
  unfold winR
  rw [good_gE g, if_neg (by omega), if_neg (by omega), h0, if_neg (by omega), Int.toNat_natCast]

end Go.Proofs.YtgmgnlgolhjhmaaDoor
