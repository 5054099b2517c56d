/-
  The statement on counting from the newest row returns true.
-/
import Derived.Test.YtgmgnlgolhjhmaaDoorSbLaws
namespace Go.Proofs.YtgmgnlgolhjhmaaDoor
open Go.RowKit Go.Shelf Cr Gd

set_option maxHeartbeats 1000000 in
set_option maxRecDepth 100000 in
theorem newest_walk (A : Option Addr) (n c : Nat) (L : List (List C)) (A2 : Option Addr) (n2 c2 : Nat) (M : List (List C)) (w : World) (hr : RdR w A n L) (_hnc : n ≤ c) (_hmax : n ≤ 9223372036854775807) (hnil : A = none → n = 0 ∧ c = 0) (hr2 : RdR w A2 n2 M) (_hnc2 : n2 ≤ c2) (_hmax2 : n2 ≤ 9223372036854775807) (hnil2 : A2 = none → n2 = 0 ∧ c2 = 0) (hT : Lib.Utf8Tabs 0 1 w) :
    Calls Tryd.prog 7 #[.slice A n c, .slice A2 n2 c2] w fun e w' => e = .returned (.bool true) ∧ Below w.heap.size w w' := by
  have CG := Lib.hid (greatS_any A n c L w hr)
  have CG2 := Lib.hid (greatS_any A2 n2 c2 M w hr2)
  have HT := Lib.hid (fun U (h : Below w.heap.size w U) => Utf8Tabs_below hT h)
  have CW := Lib.hid (fun U (hu : Below w.heap.size w U) => awake_true U (HT.out U hu))
  clear hT
  cases hg : greatS L
  · rw [hg, if_neg (by decide)] at CG
    cases hg2 : greatS M
    · rw [hg2, if_neg (by decide)] at CG2
      obtain ⟨hl12, _, hlen⟩ := greatS_false hg
      obtain ⟨hm12, _, hlen2⟩ := greatS_false hg2
      have hlL : L.length = n := hr.1
      have hlM : M.length = n2 := hr2.1
      have hz : Sz L := fun l hl => by have := hlen l hl; omega
      have hz2 : Sz M := fun l hl => by have := hlen2 l hl; omega
      have CP := Lib.hid (push_any A A2 n c n2 c2 L M (by omega) hnil hnil2 w hr hr2 hz hz2)
      rw [Sb.push_small L M (by omega)] at CP
      obtain ⟨k, hk⟩ : ∃ k, n + n2 = k := ⟨_, rfl⟩
      have HBR := Lib.hid (fun U (h : Below w.heap.size w U) => both_rows A A2 n c n2 c2 L M U (by omega) hnil hnil2 (hr.below h) (hr2.below h))
      rw [hk] at HBR
      have hXL : (L ++ M).length = k := by rw [List.length_append]; omega
      have hZ : Sz (L ++ M) := Sz.app hz hz2
      generalize L ++ M = X at CP HBR hXL hZ
      rw [hXL] at CP
      have HXL := Lib.hid hXL
      have HZ := Lib.hid hZ
      have hk24 : k ≤ 24 := by omega
      have HK := Lib.hid (show k ≤ 1000 by omega)
      have CLN := Lib.hid (fun (A1 : Option Addr) (d1 : Nat) (i : Int) U (h : RdR U A1 k X) => line_any A1 k d1 X i HK.out U h HZ.out)
      have hkz : (k : Int) ≤ 24 := by omega
      clear hr hr2 hnil hnil2 hg hg2 hl12 hlen hm12 hlen2 hlL hlM hz hz2 hk hXL hZ hk24
      go_enter Tryd.func7, Tryd.ntmps7
      go_wp2_with fail
      refine CG.out.mono ?_
      rintro e v0 ⟨rfl, rfl⟩
      go_wp2_with fail
      refine CG2.out.mono ?_
      rintro e v1 ⟨rfl, rfl⟩
      go_wp2_with fail
      refine CP.out.mono ?_
      rintro e w1 ⟨A1, d1, rfl, g1⟩
      have B1 := Lib.hid g1.bel
      obtain ⟨A4, d4, w4, A5, d5, w5, hrun1, hrun2, hG5⟩ := HBR.out w1 g1.bel
      have HR1 := Lib.hid hrun1
      have HR2 := Lib.hid hrun2
      have R5 := Lib.hid hG5.rd.1
      have R1 := Lib.hid (g1.rd.1.below hG5.bel)
      have B5 := Lib.hid (g1.bel.trans (hG5.bel.mono g1.bel.size))
      clear g1 hrun1 hrun2 hG5 CP HBR
      go_wp2_with (at_builtin; first | refine Lib.wpList_append_run _ rfl (.tmp 26) (.tmp 27) _ _ rfl _ _ rfl rfl _ _ (HR1.out _) ?_ | refine Lib.wpList_append_run _ rfl (.tmp 28) (.tmp 29) _ _ rfl _ _ rfl rfl _ _ (HR2.out _) ?_)
      go_loopg [7, 8, 9, 33] (k + 1) (fun gk _ _ _ v33 wr => ∃ i : Nat, gk + i = k + 1 ∧ i ≤ k ∧ v33 = .int .i64 (i : Int) ∧ Aside (Below w5.heap.size w5 wr))
      case atStart => exact ⟨0, by omega, Nat.zero_le _, rfl, Below.refl _ _⟩
      case round =>
        obtain ⟨i, hgk, hik, rfl, hA⟩ := hrel
        by_cases hlt : i < k
        · obtain ⟨gf, rfl⟩ : ∃ gf, gk = gf + 1 := ⟨gk - 1, by omega⟩
          have hz : (i : Int) < (k : Int) := by omega
          have hz0 : (0 : Int) ≤ (i : Int) := by omega
          have HA := Lib.hid hA.out
          have CL := Lib.hid (CLN.out A1 d1 (i : Int) wr (R1.out.below HA.out))
          have e1 : lineE X (i : Int) = 0 := by unfold lineE; rw [HXL.out, if_pos (by omega)]
          rw [e1] at CL
          obtain ⟨j, hj⟩ : ∃ j, k - 1 - i = j := ⟨_, rfl⟩
          have hx := lineL_at (L := X) (k := i) (by rw [HXL.out]; exact hlt)
          rw [HXL.out, hj] at hx
          have HX := Lib.hid hx
          have hlz := lineL_sz HZ.out (i : Int)
          generalize lineL X (i : Int) = l at CL HX hlz
          have HLZ := Lib.hid hlz
          have z3 : (k : Int) - 1 - (i : Int) = (j : Int) := by omega
          have z4 : (j : Int) < (k : Int) := by omega
          have z5 : (0 : Int) ≤ (j : Int) := by omega
          clear hA hx hj e1 hlz
          go_wp2_with fail
          refine CL.out.mono ?_
          rintro e w6 ⟨A6, m6, d6, rfl, g6⟩
          have B6 := Lib.hid (HA.out.trans (g6.2.2.mono HA.out.size))
          obtain ⟨b, off, A7, m7, d7, hA5, hb, hc, hrd, _⟩ := (R5.out.below B6.out).at j l HX.out
          subst hA5
          have hm6 : m6 ≤ 1000 := by have := HLZ.out; rw [← g6.1.1]; exact this
          have hm7 : m7 ≤ 1000 := by have := HLZ.out; rw [← hrd.1]; exact this
          have S1 := Lib.hid (same_any A6 A7 m6 m7 d6 d7 l l w6 g6.1 hrd hm6 hm7)
          rw [decide_eq_true rfl] at S1
          clear g6 hrd CL
          go_wp2_with fail
          refine S1.out.mono ?_
          rintro e w7 ⟨rfl, b7⟩
          have B7 := Lib.hid (B6.out.trans (b7.mono B6.out.size))
          clear b7 S1 hc
          go_wp2
          go_roundg gf
          case measure => omega
          case rel => exact ⟨i + 1, by omega, by omega, by go_num, B7.out⟩
        · have hz : ¬ (i : Int) < (k : Int) := by omega
          have hik' : i = k := by omega
          subst hik'
          have HA := Lib.hid hA.out
          have CL := Lib.hid (CLN.out A1 d1 (i : Int) wr (R1.out.below HA.out))
          have CL2 := Lib.hid (fun U (h : Below wr.heap.size wr U) => CLN.out A1 d1 (-1) U (R1.out.below (HA.out.trans (h.mono HA.out.size))))
          have e1 : lineE X (i : Int) = 2 := by unfold lineE; rw [HXL.out, if_neg (by omega)]
          have e2 : lineE X (-1) = 2 := by unfold lineE; rw [if_neg (by omega)]
          rw [e1] at CL
          rw [e2] at CL2
          clear hA e1 e2
          go_wp2_with fail
          refine CL.out.mono ?_
          rintro e w6 ⟨A6, m6, d6, rfl, g6⟩
          have B6 := Lib.hid (HA.out.trans (g6.2.2.mono HA.out.size))
          have CLx := Lib.hid (CL2.out w6 g6.2.2)
          clear g6 CL CL2
          go_wp2_with fail
          refine CLx.out.mono ?_
          rintro e w7 ⟨A7, m7, d7, rfl, g7⟩
          have B7 := Lib.hid (B5.out.trans ((B6.out.trans (g7.2.2.mono B6.out.size)).mono B5.out.size))
          have CWx := Lib.hid (CW.out w7 B7.out)
          clear g7 CLx
          go_wp2_with fail
          refine CWx.out.mono ?_
          rintro e w8 ⟨rfl, b8⟩
          have B8 := Lib.hid (B7.out.trans (b8.mono B7.out.size))
          clear b8
          go_wp2
          go_ret
          exact ⟨rfl, B8.out⟩
    · rw [hg2, if_pos rfl] at CG2
      clear hg hg2 hnil hnil2 hr hr2
      have CW1 := Lib.hid (CW.out w (Below.refl _ _))
      go_enter Tryd.func7, Tryd.ntmps7
      go_wp2_with fail
      refine CG.out.mono ?_
      rintro e v0 ⟨rfl, rfl⟩
      go_wp2_with fail
      refine CG2.out.mono ?_
      rintro e v1 ⟨rfl, rfl⟩
      go_wp2_with fail
      refine CW1.out.mono ?_
      rintro e w2 ⟨rfl, b2⟩
      have B2 := Lib.hid b2
      clear b2
      go_wp2
      go_ret
      exact ⟨rfl, B2.out⟩
  · rw [hg, if_pos rfl] at CG
    clear hg hnil hnil2 hr hr2 CG2
    have CW1 := Lib.hid (CW.out w (Below.refl _ _))
    go_enter Tryd.func7, Tryd.ntmps7
    go_wp2_with fail
    refine CG.out.mono ?_
    rintro e v0 ⟨rfl, rfl⟩
    go_wp2_with fail
    refine CW1.out.mono ?_
    rintro e w2 ⟨rfl, b2⟩
    have B2 := Lib.hid b2
    clear b2
    go_wp2
    go_ret
    exact ⟨rfl, B2.out⟩

end Go.Proofs.YtgmgnlgolhjhmaaDoor
