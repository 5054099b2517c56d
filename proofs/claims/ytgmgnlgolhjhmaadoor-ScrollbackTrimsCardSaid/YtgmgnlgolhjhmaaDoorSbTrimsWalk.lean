/-
  The statement on trimming twice returns true.
-/
import Derived.Test.YtgmgnlgolhjhmaaDoorSbLaws
namespace Go.Proofs.YtgmgnlgolhjhmaaDoor
open Go.RowKit Go.Shelf Cr Gd

set_option maxHeartbeats 1000000 in
set_option maxRecDepth 100000 in
theorem trims_walk (A : Option Addr) (n c : Nat) (L : List (List C)) (x1 x2 : Int) (w : World) (hr : RdR w A n L) (hnc : n ≤ c) (_hmax : n ≤ 9223372036854775807) (hnil : A = none → n = 0 ∧ c = 0) (a1 : 0 ≤ x1) (b1 : x1 ≤ 255) (a2 : 0 ≤ x2) (b2 : x2 ≤ 255) (hT : Lib.Utf8Tabs 0 1 w) :
    Calls Tryd.prog 10 #[.slice A n c, .int .u8 x1, .int .u8 x2] w fun e w' => e = .returned (.bool true) ∧ Below w.heap.size w w' := by
  have CG := Lib.hid (greatS_any A n c L w hr)
  have HT := Lib.hid (fun U (h : Below w.heap.size w U) => Utf8Tabs_below hT h)
  have CW := Lib.hid (fun U (hu : Below w.heap.size w U) => awake_true U (HT.out U hu))
  clear hT
  cases hg : greatS L
  · rw [hg, if_neg (by decide)] at CG
    obtain ⟨hl12, hsm, hlen⟩ := greatS_false hg
    have hlL : L.length = n := hr.1
    have hz : Sz L := fun l hl => by have := hlen l hl; omega
    obtain ⟨y1, rfl⟩ : ∃ y1 : Nat, x1 = (y1 : Int) := ⟨x1.toNat, by omega⟩
    obtain ⟨y2, rfl⟩ : ∃ y2 : Nat, x2 = (y2 : Int) := ⟨x2.toNat, by omega⟩
    obtain ⟨m, hm⟩ : ∃ m, y1 % 14 = m := ⟨_, rfl⟩
    obtain ⟨k, hk⟩ : ∃ k, y2 % 14 = k := ⟨_, rfl⟩
    have m1 : (y1 : Int).tmod 14 = (m : Int) := by rw [← hm]; exact (Int.ofNat_tmod y1 14).symm
    have m2 : (y2 : Int).tmod 14 = (k : Int) := by rw [← hk]; exact (Int.ofNat_tmod y2 14).symm
    have v1 : IntKind.i64.wrap (y1 : Int) = (y1 : Int) := by rw [IntKind.wrap_i64]; omega
    have v2 : IntKind.i64.wrap (y2 : Int) = (y2 : Int) := by rw [IntKind.wrap_i64]; omega
    have v3 : IntKind.i64.wrap (m : Int) = (m : Int) := by rw [IntKind.wrap_i64]; omega
    have v4 : IntKind.i64.wrap (k : Int) = (k : Int) := by rw [IntKind.wrap_i64]; omega
    have v5 : IntKind.i64.wrap (-(m : Int)) = -(m : Int) := by rw [IntKind.wrap_i64]; omega
    obtain ⟨q, hq⟩ : ∃ q, min m k = q := ⟨_, rfl⟩
    have hmin2 : min (m : Int) (k : Int) = (q : Int) := by omega
    obtain ⟨K, hK⟩ : ∃ K, min m n = K := ⟨_, rfl⟩
    have hmin1 : min (m : Int) (n : Int) = (K : Int) := by omega
    have hK12 : K ≤ 1000 := by omega
    obtain ⟨i, hi⟩ : ∃ i, n - K = i := ⟨_, rfl⟩
    have hiz : (n : Int) - (K : Int) = (i : Int) := by omega
    have hT0 : Sb.trim L (m : Int) = L.drop i := by rw [trim_nat L (m : Int) K (by omega)]; congr 1; omega
    have hTT : Sb.trim (Sb.trim L (m : Int)) (k : Int) = Sb.trim L (q : Int) := by rw [Sb.trim_trim L _ _ (by omega) (by omega), hmin2]
    have hTl : (Sb.trim L (m : Int)).length = K := by rw [Sb.trim_length]; omega
    obtain ⟨T3, hT3⟩ : ∃ T3, Sb.trim L (q : Int) = T3 := ⟨_, rfl⟩
    obtain ⟨K3, hK3⟩ : ∃ K3, T3.length = K3 := ⟨_, rfl⟩
    have HZ3 : Hid (Sz T3) := Lib.hid (by rw [← hT3]; exact Sz.trim hz _)
    have HK31 : Hid (K3 ≤ 1000) := Lib.hid (by rw [← hK3, ← hT3, Sb.trim_length]; omega)
    have CT1 := Lib.hid (trim_any A n c L (m : Int) (by omega) hnc (fun e => (hnil e).2) w hr hz)
    have CT3 := Lib.hid (fun U (h : Below w.heap.size w U) => trim_any A n c L (q : Int) (by omega) hnc (fun e => (hnil e).2) U (hr.below h) hz)
    have CT4 := Lib.hid (fun U (h : Below w.heap.size w U) => trim_any A n c L (-(m : Int)) (by omega) hnc (fun e => (hnil e).2) U (hr.below h) hz)
    rw [Sb.trim_none L (-(m : Int)) (by omega), List.length_nil] at CT4
    rw [hT3, hK3] at CT3
    rw [hT3] at hTT
    have HK3 := Lib.hid hK3
    have HZT : Hid (Sz (Sb.trim L (m : Int))) := Lib.hid (Sz.trim hz _)
    have hTd : ∀ U, Below w.heap.size w U → ∀ ad R, A = some ad → (if c = i then some ad else some (ad.add i)) = R → RdR U R K (Sb.trim L (m : Int)) := fun U hU ad R e hR => by
      subst e
      have h := (hr.below hU).tailA (i := i) (by omega) hnc hR
      rw [show n - i = K by omega] at h
      rw [hT0]
      exact h
    have hTn : A = none → ∀ U, RdR U none K (Sb.trim L (m : Int)) := fun e U => by
      have := (hnil e).1
      rw [hT0, List.drop_of_length_le (by omega), show K = 0 by omega]
      exact RdR.nil _ _
    rw [hTl] at CT1
    generalize Sb.trim L (m : Int) = T at CT1 hTT HZT hTd hTn hTl
    have HT3 := Lib.hid hTT
    have z1 : (K : Int) ≤ 12 := by omega
    have z2 : (0 : Int) ≤ (i : Int) := by omega
    have z3 : (i : Int) ≤ (n : Int) := by omega
    have z4 : (n : Int) ≤ (c : Int) := by omega
    have z5 : (n : Int) ≤ 12 := by omega
    have z6 : ((K : Int) == (K : Int)) = true := beq_self_eq_true _
    have z7 : n - i = K := by omega
    cases A with
    | none =>
      obtain ⟨rfl, rfl⟩ := hnil rfl
      obtain rfl : K = 0 := by omega
      obtain rfl : i = 0 := by omega
      have HTAIL := Lib.hid (fun (U : World) (_ : Below w.heap.size w U) => hTn rfl U)
      have hmin0 : min (m : Int) 0 = 0 := by omega
      clear hm hk hq hK hi hTl hTT hT3 hK3 hTd hTn hz hlL hsm hlen hl12 hg hr hnil hT0 hmin1
      go_enter Tryd.func10, Tryd.ntmps10
      go_wp2_with fail
      refine CG.out.mono ?_
      rintro e w0 ⟨rfl, rfl⟩
      go_wp2_with fail
      refine CT1.out.mono ?_
      rintro e w1 ⟨A1, d1, rfl, g1⟩
      have B1 := Lib.hid g1.bel
      have S1 := Lib.hid (sameRows_any A1 none 0 0 d1 0 T T w1 g1.rd.1 (HTAIL.out w1 B1.out) (by decide) (by decide) HZT.out HZT.out)
      rw [decide_eq_true rfl] at S1
      have CT2 := Lib.hid (fun U (h : Below w1.heap.size w1 U) => trim_any A1 0 d1 T (k : Int) (by decide) g1.rd.2.2.1 g1.nilz U (g1.rd.1.below h) HZT.out)
      rw [HT3.out, HK3.out] at CT2
      clear g1 CT1
      go_wp2_with fail
      refine S1.out.mono ?_
      rintro e w2 ⟨rfl, b2⟩
      have CT2x := Lib.hid (CT2.out w2 b2)
      have B2 := Lib.hid (B1.out.trans (b2.mono B1.out.size))
      clear b2 S1 CT2
      go_wp2_with fail
      refine CT2x.out.mono ?_
      rintro e w3 ⟨A3, d3, rfl, g3⟩
      have B3 := Lib.hid (B2.out.trans (g3.bel.mono B2.out.size))
      have R3 := Lib.hid g3.rd.1
      have CT3x := Lib.hid (CT3.out w3 B3.out)
      clear g3 CT2x CT3
      go_wp2_with fail
      refine CT3x.out.mono ?_
      rintro e w4 ⟨A4, d4, rfl, g4⟩
      have B4 := Lib.hid (B3.out.trans (g4.bel.mono B3.out.size))
      have S2 := Lib.hid (sameRows_any A3 A4 K3 K3 d3 d4 T3 T3 w4 (R3.out.below g4.bel) g4.rd.1 HK31.out HK31.out HZ3.out HZ3.out)
      rw [decide_eq_true rfl] at S2
      clear g4 CT3x
      go_wp2_with fail
      refine S2.out.mono ?_
      rintro e w5 ⟨rfl, b5⟩
      have B5 := Lib.hid (B4.out.trans (b5.mono B4.out.size))
      have CT4x := Lib.hid (CT4.out w5 B5.out)
      clear b5 S2 CT4
      go_wp2_with fail
      refine CT4x.out.mono ?_
      rintro e w6 ⟨A6, d6, rfl, g6⟩
      have B6 := Lib.hid (B5.out.trans (g6.bel.mono B5.out.size))
      have CW6 := Lib.hid (CW.out w6 B6.out)
      clear g6 CT4x
      go_wp2_with fail
      refine CW6.out.mono ?_
      rintro e w7 ⟨rfl, b7⟩
      have B7 := Lib.hid (B6.out.trans (b7.mono B6.out.size))
      clear b7
      go_wp2
      go_ret
      exact ⟨rfl, B7.out⟩
    | some ad =>
      obtain ⟨R, hR⟩ : ∃ R, (if c = i then some ad else some (ad.add i)) = R := ⟨_, rfl⟩
      have HTAIL := Lib.hid (fun (U : World) (h : Below w.heap.size w U) => hTd U h ad R rfl hR)
      clear hm hk hq hK hi hTl hTT hT3 hK3 hTd hTn hz hlL hsm hlen hl12 hg hr hnil hT0
      go_enter Tryd.func10, Tryd.ntmps10
      go_wp2_with fail
      refine CG.out.mono ?_
      rintro e w0 ⟨rfl, rfl⟩
      go_wp2_with fail
      refine CT1.out.mono ?_
      rintro e w1 ⟨A1, d1, rfl, g1⟩
      have B1 := Lib.hid g1.bel
      have S1 := Lib.hid (sameRows_any A1 R K K d1 (c - i) T T w1 g1.rd.1 (HTAIL.out w1 B1.out) hK12 hK12 HZT.out HZT.out)
      rw [decide_eq_true rfl] at S1
      have CT2 := Lib.hid (fun U (h : Below w1.heap.size w1 U) => trim_any A1 K d1 T (k : Int) hK12 g1.rd.2.2.1 g1.nilz U (g1.rd.1.below h) HZT.out)
      rw [HT3.out, HK3.out] at CT2
      clear g1 CT1
      go_wp2_with fail
      refine S1.out.mono ?_
      rintro e w2 ⟨rfl, b2⟩
      have CT2x := Lib.hid (CT2.out w2 b2)
      have B2 := Lib.hid (B1.out.trans (b2.mono B1.out.size))
      clear b2 S1 CT2
      go_wp2_with fail
      refine CT2x.out.mono ?_
      rintro e w3 ⟨A3, d3, rfl, g3⟩
      have B3 := Lib.hid (B2.out.trans (g3.bel.mono B2.out.size))
      have R3 := Lib.hid g3.rd.1
      have CT3x := Lib.hid (CT3.out w3 B3.out)
      clear g3 CT2x CT3
      go_wp2_with fail
      refine CT3x.out.mono ?_
      rintro e w4 ⟨A4, d4, rfl, g4⟩
      have B4 := Lib.hid (B3.out.trans (g4.bel.mono B3.out.size))
      have S2 := Lib.hid (sameRows_any A3 A4 K3 K3 d3 d4 T3 T3 w4 (R3.out.below g4.bel) g4.rd.1 HK31.out HK31.out HZ3.out HZ3.out)
      rw [decide_eq_true rfl] at S2
      clear g4 CT3x
      go_wp2_with fail
      refine S2.out.mono ?_
      rintro e w5 ⟨rfl, b5⟩
      have B5 := Lib.hid (B4.out.trans (b5.mono B4.out.size))
      have CT4x := Lib.hid (CT4.out w5 B5.out)
      clear b5 S2 CT4
      go_wp2_with fail
      refine CT4x.out.mono ?_
      rintro e w6 ⟨A6, d6, rfl, g6⟩
      have B6 := Lib.hid (B5.out.trans (g6.bel.mono B5.out.size))
      have CW6 := Lib.hid (CW.out w6 B6.out)
      clear g6 CT4x
      go_wp2_with fail
      refine CW6.out.mono ?_
      rintro e w7 ⟨rfl, b7⟩
      have B7 := Lib.hid (B6.out.trans (b7.mono B6.out.size))
      clear b7
      go_wp2
      go_ret
      exact ⟨rfl, B7.out⟩
  · clear hnil hnc
    rw [hg, if_pos rfl] at CG
    clear hg
    have CW1 := Lib.hid (CW.out w (Below.refl _ _))
    go_enter Tryd.func10, Tryd.ntmps10
    go_wp2_with fail
    refine CG.out.mono ?_
    rintro e w1 ⟨rfl, rfl⟩
    go_wp2_with fail
    refine CW1.out.mono ?_
    rintro e w2 ⟨rfl, b2⟩
    have B2 := Lib.hid b2
    clear b2
    go_wp2
    go_ret
    exact ⟨rfl, B2.out⟩

end Go.Proofs.YtgmgnlgolhjhmaaDoor
