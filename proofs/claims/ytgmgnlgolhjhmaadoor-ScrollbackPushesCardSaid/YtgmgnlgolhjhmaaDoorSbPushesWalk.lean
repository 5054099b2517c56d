/-
  The statement on pushing in two steps returns true.
-/
import Derived.Test.YtgmgnlgolhjhmaaDoorSbLaws
namespace Go.Proofs.YtgmgnlgolhjhmaaDoor
open Go.RowKit Go.Shelf Cr Gd

set_option maxHeartbeats 1000000 in
set_option maxRecDepth 100000 in
theorem pushes_walk (A : Option Addr) (n c : Nat) (L : List (List C)) (A2 : Option Addr) (n2 c2 : Nat) (M : List (List C)) (A3 : Option Addr) (n3 c3 : Nat) (N : List (List C)) (w : World) (hr : RdR w A n L) (_hnc : n ≤ c) (_hmax : n ≤ 9223372036854775807) (hnil : A = none → n = 0 ∧ c = 0) (hr2 : RdR w A2 n2 M) (_hnc2 : n2 ≤ c2) (_hmax2 : n2 ≤ 9223372036854775807) (hnil2 : A2 = none → n2 = 0 ∧ c2 = 0) (hr3 : RdR w A3 n3 N) (_hnc3 : n3 ≤ c3) (_hmax3 : n3 ≤ 9223372036854775807) (hnil3 : A3 = none → n3 = 0 ∧ c3 = 0) (hT : Lib.Utf8Tabs 0 1 w) :
    Calls Tryd.prog 5 #[.slice A n c, .slice A2 n2 c2, .slice A3 n3 c3] w fun e w' => e = .returned (.bool true) ∧ Below w.heap.size w w' := by
  have CG := Lib.hid (greatS_any A n c L w hr)
  have CG2 := Lib.hid (greatS_any A2 n2 c2 M w hr2)
  have CG3 := Lib.hid (greatS_any A3 n3 c3 N w hr3)
  have HT := Lib.hid (fun U (h : Below w.heap.size w U) => Utf8Tabs_below hT h)
  have CW := Lib.hid (fun U (hu : Below w.heap.size w U) => awake_true U (HT.out U hu))
  clear hT
  cases hg : greatS L
  · rw [hg, if_neg (by decide)] at CG
    cases hg2 : greatS M
    · rw [hg2, if_neg (by decide)] at CG2
      cases hg3 : greatS N
      · rw [hg3, if_neg (by decide)] at CG3
        obtain ⟨hl12, _, hlen⟩ := greatS_false hg
        obtain ⟨hm12, _, hlen2⟩ := greatS_false hg2
        obtain ⟨hn12, _, hlen3⟩ := greatS_false hg3
        have hlL : L.length = n := hr.1
        have hlM : M.length = n2 := hr2.1
        have hlN : N.length = n3 := hr3.1
        have hz : Sz L := fun l hl => by have := hlen l hl; omega
        have hz2 : Sz M := fun l hl => by have := hlen2 l hl; omega
        have hz3 : Sz N := fun l hl => by have := hlen3 l hl; omega
        obtain ⟨A4, d4, w4, A5, d5, w5, hrun1, hrun2, hG5⟩ := both_rows A2 A3 n2 c2 n3 c3 M N w (by omega) hnil2 hnil3 hr2 hr3
        obtain ⟨q, hq⟩ : ∃ q, n2 + n3 = q := ⟨_, rfl⟩
        rw [hq] at hrun2 hG5
        have HR1 := Lib.hid hrun1
        have HR2 := Lib.hid hrun2
        have HG5 := Lib.hid hG5
        have B5 := Lib.hid hG5.bel
        have hp1 : Sb.push L M = L ++ M := Sb.push_small L M (by omega)
        have hp2 : Sb.push (Sb.push L M) N = Sb.push L (M ++ N) := Sb.push_push L M N (by omega)
        have hp3 : Sb.push L (M ++ N) = L ++ (M ++ N) := Sb.push_small L (M ++ N) (by rw [List.length_append]; omega)
        have CP1 := Lib.hid (push_any A A2 n c n2 c2 L M (by omega) hnil hnil2 w5 (hr.below hG5.bel) (hr2.below hG5.bel) hz hz2)
        have CP3 := Lib.hid (fun U (h : Below w5.heap.size w5 U) => push_any A A5 n c q d5 L (M ++ N) (by omega) hnil hG5.rd.2.1 U (hr.below (hG5.bel.trans (h.mono hG5.bel.size))) (hG5.rd.1.below h) hz (Sz.app hz2 hz3))
        have CP2 := Lib.hid (fun (A6 : Option Addr) (k6 d6 : Nat) U (hk : k6 ≤ 100) (h6 : A6 = none → k6 = 0 ∧ d6 = 0) (hr6 : RdR U A6 k6 (Sb.push L M)) (h : Below w.heap.size w U) => push_any A6 A3 k6 d6 n3 c3 (Sb.push L M) N (by omega) h6 hnil3 U hr6 (hr3.below h) (Sz.push hz hz2) hz3)
        rw [hp2] at CP2
        have HZ : Hid (Sz (L ++ (M ++ N))) := Lib.hid (Sz.app hz (Sz.app hz2 hz3))
        have HZ2 : Hid (Sz (M ++ N)) := Lib.hid (Sz.app hz2 hz3)
        rw [hp3] at CP2 CP3
        have HTA : Hid (Sb.trim (L ++ (M ++ N)) (q : Int) = M ++ N) := Lib.hid (by
          have := Sb.trim_app L (M ++ N)
          rw [List.length_append, hlM, hlN, hq] at this
          exact this)
        have HXL : Hid ((L ++ (M ++ N)).length = n + q) := Lib.hid (by rw [List.length_append, List.length_append]; omega)
        have HYL : Hid ((M ++ N).length = q) := Lib.hid (by rw [List.length_append]; omega)
        have HPL : Hid ((Sb.push L M).length ≤ 100) := Lib.hid (by rw [hp1, List.length_append]; omega)
        generalize Sb.push L M = P at CP1 CP2 HPL
        obtain ⟨K, hK⟩ : ∃ K, P.length = K := ⟨_, rfl⟩
        rw [hK] at CP1 HPL
        generalize L ++ (M ++ N) = X at CP2 CP3 HZ HTA HXL
        generalize M ++ N = Y at HTA HYL HZ2 HG5 CP3
        obtain ⟨k, hk⟩ : ∃ k, n + q = k := ⟨_, rfl⟩
        rw [hk] at HXL
        have CP2' := Lib.hid (fun (A6 : Option Addr) (k6 d6 : Nat) U hk h6 hr6 (h : Below w.heap.size w U) => CP2.out A6 k6 d6 U hk h6 hr6 h)
        rw [HXL.out] at CP2' CP3
        have z1 : (n : Int) + (q : Int) = (k : Int) := by omega
        have z2 : ((k : Int) == (k : Int)) = true := beq_self_eq_true _
        have z3 : (k : Int) ≤ 100 := by omega
        have HKL : Hid (k ≤ 1000) := Lib.hid (by omega)
        have HQL : Hid (q ≤ 1000) := Lib.hid (by omega)
        clear CP2 hr hr2 hr3 hnil hnil2 hnil3 hg hg2 hg3 hl12 hlen hm12 hlen2 hn12 hlen3 hlL hlM hlN hz hz2 hz3 hq hrun1 hrun2 hG5 hp1 hp2 hp3 hK hk
        go_enter Tryd.func5, Tryd.ntmps5
        go_wp2_with fail
        refine CG.out.mono ?_
        rintro e v0 ⟨rfl, rfl⟩
        go_wp2_with fail
        refine CG2.out.mono ?_
        rintro e v1 ⟨rfl, rfl⟩
        go_wp2_with fail
        refine CG3.out.mono ?_
        rintro e v2 ⟨rfl, rfl⟩
        go_wp2_with (at_builtin; first | refine Lib.wpList_append_run _ rfl (.tmp 23) (.tmp 24) _ _ rfl _ _ rfl rfl _ _ (HR1.out _) ?_ | refine Lib.wpList_append_run _ rfl (.tmp 25) (.tmp 26) _ _ rfl _ _ rfl rfl _ _ (HR2.out _) ?_)
        refine CP1.out.mono ?_
        rintro e w6 ⟨A6, d6, rfl, g6⟩
        have B6 := Lib.hid (B5.out.trans (g6.bel.mono B5.out.size))
        have Q6 := Lib.hid g6.bel
        have CPx := Lib.hid (CP2'.out A6 K d6 w6 HPL.out g6.rd.2.1 g6.rd.1 B6.out)
        clear g6 CP1 CP2'
        go_wp2_with fail
        refine CPx.out.mono ?_
        rintro e w7 ⟨A7, d7, rfl, g7⟩
        have B7 := Lib.hid (B6.out.trans (g7.bel.mono B6.out.size))
        have Q7 := Lib.hid (Q6.out.trans (g7.bel.mono Q6.out.size))
        have R7 := Lib.hid g7.rd
        have CPy := Lib.hid (CP3.out w7 Q7.out)
        clear g7 CPx CP3
        go_wp2_with fail
        refine CPy.out.mono ?_
        rintro e w8 ⟨A8, d8, rfl, g8⟩
        have B8 := Lib.hid (B7.out.trans (g8.bel.mono B7.out.size))
        have T8 := Lib.hid g8.bel
        have S1 := Lib.hid (sameRows_any A7 A8 k k d7 d8 X X w8 (R7.out.1.below g8.bel) g8.rd.1 HKL.out HKL.out HZ.out HZ.out)
        rw [decide_eq_true rfl] at S1
        clear g8 CPy
        go_wp2_with fail
        refine S1.out.mono ?_
        rintro e w9 ⟨rfl, b9⟩
        have B9 := Lib.hid (B8.out.trans (b9.mono B8.out.size))
        have T9 := Lib.hid (T8.out.trans (b9.mono T8.out.size))
        have CT := Lib.hid (trim_any A7 k d7 X (q : Int) HKL.out R7.out.2.2.1 (fun e => (R7.out.2.1 e).2) w9 (R7.out.1.below T9.out) HZ.out)
        rw [HTA.out, HYL.out] at CT
        clear b9 S1
        go_wp2_with fail
        refine CT.out.mono ?_
        rintro e w10 ⟨A10, d10, rfl, g10⟩
        have B10 := Lib.hid (B9.out.trans (g10.bel.mono B9.out.size))
        have S2 := Lib.hid (sameRows_any A10 A5 q q d10 d5 Y Y w10 g10.rd.1 (HG5.out.rd.1.below (Q7.out.trans ((T9.out.trans (g10.bel.mono T9.out.size)).mono Q7.out.size))) HQL.out HQL.out HZ2.out HZ2.out)
        rw [decide_eq_true rfl] at S2
        clear g10 CT
        go_wp2_with fail
        refine S2.out.mono ?_
        rintro e w11 ⟨rfl, b11⟩
        have B11 := Lib.hid (B10.out.trans (b11.mono B10.out.size))
        have CW11 := Lib.hid (CW.out w11 B11.out)
        clear b11 S2
        go_wp2_with fail
        refine CW11.out.mono ?_
        rintro e w12 ⟨rfl, b12⟩
        have B12 := Lib.hid (B11.out.trans (b12.mono B11.out.size))
        clear b12
        go_wp2
        go_ret
        exact ⟨rfl, B12.out⟩
      · rw [hg3, if_pos rfl] at CG3
        clear hg hg2 hg3 hnil hnil2 hnil3 hr hr2 hr3
        have CW1 := Lib.hid (CW.out w (Below.refl _ _))
        go_enter Tryd.func5, Tryd.ntmps5
        go_wp2_with fail
        refine CG.out.mono ?_
        rintro e v0 ⟨rfl, rfl⟩
        go_wp2_with fail
        refine CG2.out.mono ?_
        rintro e v1 ⟨rfl, rfl⟩
        go_wp2_with fail
        refine CG3.out.mono ?_
        rintro e v2 ⟨rfl, rfl⟩
        go_wp2_with fail
        refine CW1.out.mono ?_
        rintro e w2 ⟨rfl, b2⟩
        have B2 := Lib.hid b2
        clear b2
        go_wp2
        go_ret
        exact ⟨rfl, B2.out⟩
    · rw [hg2, if_pos rfl] at CG2
      clear hg hg2 hnil hnil2 hnil3 hr hr2 hr3 CG3
      have CW1 := Lib.hid (CW.out w (Below.refl _ _))
      go_enter Tryd.func5, Tryd.ntmps5
      go_wp2_with fail
      refine CG.out.mono ?_
      rintro e v0 ⟨rfl, rfl⟩
      go_wp2_with fail
      refine CG2.out.mono ?_
      rintro e v1 ⟨rfl, rfl⟩
      go_wp2_with fail
      refine CW1.out.mono ?_
      rintro e w2 ⟨rfl, b2⟩
      have B2 := Lib.hid b2
      clear b2
      go_wp2
      go_ret
      exact ⟨rfl, B2.out⟩
  · rw [hg, if_pos rfl] at CG
    clear hg hnil hnil2 hnil3 hr hr2 hr3 CG2 CG3
    have CW1 := Lib.hid (CW.out w (Below.refl _ _))
    go_enter Tryd.func5, Tryd.ntmps5
    go_wp2_with fail
    refine CG.out.mono ?_
    rintro e v0 ⟨rfl, rfl⟩
    go_wp2_with fail
    refine CW1.out.mono ?_
    rintro e w2 ⟨rfl, b2⟩
    have B2 := Lib.hid b2
    clear b2
    go_wp2
    go_ret
    exact ⟨rfl, B2.out⟩

end Go.Proofs.YtgmgnlgolhjhmaaDoor
