/-
  The statement on Push, Line, Trim and the document's own returns true.
-/
import Derived.Test.YtgmgnlgolhjhmaaDoorSbLaws
namespace Go.Proofs.YtgmgnlgolhjhmaaDoor
open Go.RowKit Go.Shelf Cr Gd

set_option maxHeartbeats 1000000 in
set_option maxRecDepth 100000 in
theorem rows_walk (A : Option Addr) (n c : Nat) (L : List (List C)) (A2 : Option Addr) (n2 c2 : Nat) (M : List (List C)) (back most : Int) (w : World) (hr : RdR w A n L) (hnc : n ≤ c) (_hmax : n ≤ 9223372036854775807) (hnil : A = none → n = 0 ∧ c = 0) (hr2 : RdR w A2 n2 M) (_hnc2 : n2 ≤ c2) (_hmax2 : n2 ≤ 9223372036854775807) (hnil2 : A2 = none → n2 = 0 ∧ c2 = 0) (_hb1 : -9223372036854775808 ≤ back) (_hb2 : back ≤ 9223372036854775807) (_hm1 : -9223372036854775808 ≤ most) (hm2 : most ≤ 9223372036854775807) (hT : Lib.Utf8Tabs 0 1 w) :
    Calls Tryd.prog 3 #[.slice A n c, .slice A2 n2 c2, .int .i64 back, .int .i64 most] w fun e w' => e = .returned (.bool true) ∧ Below w.heap.size w w' := by
  have CG := Lib.hid (greatS_any A n c L w hr)
  have CG2 := Lib.hid (greatS_any A2 n2 c2 M w hr2)
  have HT := Lib.hid (fun U (h : Below w.heap.size w U) => Utf8Tabs_below hT h)
  have CW := Lib.hid (fun U (hu : Below w.heap.size w U) => awake_true U (HT.out U hu))
  clear hT
  cases hg : greatS L
  · rw [hg, if_neg (by decide)] at CG
    cases hg2 : greatS M
    · rw [hg2, if_neg (by decide)] at CG2
      obtain ⟨hl12, hsm, hlen⟩ := greatS_false hg
      obtain ⟨hm12, hsm2, hlen2⟩ := greatS_false hg2
      have hlL : L.length = n := hr.1
      have hlM : M.length = n2 := hr2.1
      have hz : Sz L := fun l hl => by have := hlen l hl; omega
      have hz2 : Sz M := fun l hl => by have := hlen2 l hl; omega
      have CL := Lib.hid (line_any A n c L back (by omega) w hr hz)
      have CL2 := Lib.hid (fun U (h : Below w.heap.size w U) => rline_any A n c L back (by omega) U (hr.below h) hz)
      have CP := Lib.hid (fun U (h : Below w.heap.size w U) => push_any A A2 n c n2 c2 L M (by omega) hnil hnil2 U (hr.below h) (hr2.below h) hz hz2)
      have CP2 := Lib.hid (fun U (h : Below w.heap.size w U) => rpush_any A A2 n c n2 c2 L M (by omega) hnil hnil2 U (hr.below h) (hr2.below h) hz hz2)
      have CT := Lib.hid (fun U (h : Below w.heap.size w U) => trim_any A n c L most (by omega) hnc (fun e => (hnil e).2) U (hr.below h) hz)
      have CT2 := Lib.hid (fun U (h : Below w.heap.size w U) => rtrim_any A n c L most (by omega) hm2 U (hr.below h) hz)
      have HLZ := Lib.hid (lineL_sz hz back)
      have HPZ := Lib.hid (Sz.push hz hz2)
      have HTZ := Lib.hid (Sz.trim hz most)
      have HPL : Hid ((Sb.push L M).length ≤ 1000) := Lib.hid (by rw [Sb.push_length]; omega)
      have HTL : Hid ((Sb.trim L most).length ≤ 1000) := Lib.hid (by rw [Sb.trim_length]; omega)
      generalize lineE L back = E at CL CL2
      generalize lineL L back = l at CL CL2 HLZ
      generalize Sb.push L M = P at CP CP2 HPZ HPL
      obtain ⟨K, hK⟩ : ∃ K, P.length = K := ⟨_, rfl⟩
      rw [hK] at CP CP2 HPL
      generalize Sb.trim L most = T at CT CT2 HTZ HTL
      obtain ⟨J, hJ⟩ : ∃ J, T.length = J := ⟨_, rfl⟩
      rw [hJ] at CT CT2 HTL
      have hee : (((E : Nat) : Int) == ((E : Nat) : Int)) = true := beq_self_eq_true _
      clear hr hr2 hnil hnil2 hg hg2 hl12 hsm hlen hm12 hsm2 hlen2 hlL hlM hz hz2 hK hJ hnc
      go_enter Tryd.func3, Tryd.ntmps3
      go_wp2_with fail
      refine CG.out.mono ?_
      rintro e v0 ⟨rfl, rfl⟩
      go_wp2_with fail
      refine CG2.out.mono ?_
      rintro e v1 ⟨rfl, rfl⟩
      go_wp2_with fail
      refine CL.out.mono ?_
      rintro e w1 ⟨A1, m1, d1, rfl, g1⟩
      have G1 := Lib.hid g1
      have B1 := Lib.hid g1.2.2
      have CLx := Lib.hid (CL2.out w1 B1.out)
      clear g1 CL CL2
      go_wp2_with fail
      refine CLx.out.mono ?_
      rintro e w2 ⟨A3, m3, d3, rfl, g3⟩
      have B2 := Lib.hid (B1.out.trans (g3.2.2.mono B1.out.size))
      have R1 := Lib.hid (G1.out.1.below g3.2.2)
      have R3 := Lib.hid g3.1
      have CPx := Lib.hid (CP.out w2 B2.out)
      clear g3 CLx CP
      go_wp2_with fail
      refine CPx.out.mono ?_
      rintro e w3 ⟨A4, d4, rfl, g4⟩
      have B3 := Lib.hid (B2.out.trans (g4.bel.mono B2.out.size))
      have R4 := Lib.hid g4.rd.1
      have Q3 := Lib.hid g4.bel
      have CPy := Lib.hid (CP2.out w3 B3.out)
      clear g4 CPx CP2
      go_wp2_with fail
      refine CPy.out.mono ?_
      rintro e w4 ⟨A5, d5, rfl, g5⟩
      have B4 := Lib.hid (B3.out.trans (g5.bel.mono B3.out.size))
      have Q4 := Lib.hid (Q3.out.trans (g5.bel.mono Q3.out.size))
      have S1 := Lib.hid (sameRows_any A4 A5 K K d4 d5 P P w4 (R4.out.below g5.bel) g5.rd.1 HPL.out HPL.out HPZ.out HPZ.out)
      rw [decide_eq_true rfl] at S1
      clear g5 CPy
      go_wp2_with fail
      refine S1.out.mono ?_
      rintro e w5 ⟨rfl, b5⟩
      have B5 := Lib.hid (B4.out.trans (b5.mono B4.out.size))
      have Q5 := Lib.hid (Q4.out.trans (b5.mono Q4.out.size))
      have hm1' : m1 ≤ 1000 := by have := R1.out.1; have := HLZ.out; omega
      have hm3' : m3 ≤ 1000 := by have := R3.out.1; have := HLZ.out; omega
      have S2 := Lib.hid (same_any A1 A3 m1 m3 d1 d3 l l w5 (R1.out.below Q5.out) (R3.out.below Q5.out) hm1' hm3')
      rw [decide_eq_true rfl] at S2
      clear b5 S1
      go_wp2_with fail
      refine S2.out.mono ?_
      rintro e w6 ⟨rfl, b6⟩
      have B6 := Lib.hid (B5.out.trans (b6.mono B5.out.size))
      have CTx := Lib.hid (CT.out w6 B6.out)
      clear b6 S2 CT
      go_wp2_with fail
      refine CTx.out.mono ?_
      rintro e w7 ⟨A7, d7, rfl, g7⟩
      have B7 := Lib.hid (B6.out.trans (g7.bel.mono B6.out.size))
      have R7 := Lib.hid g7.rd.1
      have CTy := Lib.hid (CT2.out w7 B7.out)
      clear g7 CTx CT2
      go_wp2_with fail
      refine CTy.out.mono ?_
      rintro e w8 ⟨A8, d8, rfl, g8⟩
      have B8 := Lib.hid (B7.out.trans (g8.bel.mono B7.out.size))
      have S3 := Lib.hid (sameRows_any A7 A8 J J d7 d8 T T w8 (R7.out.below g8.bel) g8.rd.1 HTL.out HTL.out HTZ.out HTZ.out)
      rw [decide_eq_true rfl] at S3
      clear g8 CTy
      go_wp2_with fail
      refine S3.out.mono ?_
      rintro e w9 ⟨rfl, b9⟩
      have B9 := Lib.hid (B8.out.trans (b9.mono B8.out.size))
      have CW9 := Lib.hid (CW.out w9 B9.out)
      clear b9 S3
      go_wp2_with fail
      refine CW9.out.mono ?_
      rintro e w10 ⟨rfl, b10⟩
      have B10 := Lib.hid (B9.out.trans (b10.mono B9.out.size))
      clear b10
      go_wp2
      go_ret
      exact ⟨rfl, B10.out⟩
    · rw [hg2, if_pos rfl] at CG2
      clear hg hg2 hnil hnil2 hr hr2 hnc hm2
      have CW1 := Lib.hid (CW.out w (Below.refl _ _))
      go_enter Tryd.func3, Tryd.ntmps3
      go_wp2_with fail
      refine CG.out.mono ?_
      rintro e v0 ⟨rfl, rfl⟩
      go_wp2_with fail
      refine CG2.out.mono ?_
      rintro e v1 ⟨rfl, rfl⟩
      go_wp2_with fail
      refine CW1.out.mono ?_
      rintro e w2 ⟨rfl, b2⟩
      have B2 := Lib.hid b2
      clear b2
      go_wp2
      go_ret
      exact ⟨rfl, B2.out⟩
  · rw [hg, if_pos rfl] at CG
    clear hg hnil hnil2 hr hr2 hnc hm2 CG2
    have CW1 := Lib.hid (CW.out w (Below.refl _ _))
    go_enter Tryd.func3, Tryd.ntmps3
    go_wp2_with fail
    refine CG.out.mono ?_
    rintro e v0 ⟨rfl, rfl⟩
    go_wp2_with fail
    refine CW1.out.mono ?_
    rintro e w2 ⟨rfl, b2⟩
    have B2 := Lib.hid b2
    clear b2
    go_wp2
    go_ret
    exact ⟨rfl, B2.out⟩

end Go.Proofs.YtgmgnlgolhjhmaaDoor
