/-
  The statement on Set and Clear and the document's own returns true.
-/
import Derived.Test.YtokeaoapcjlmkaaDoorGrCheckWalk
import Derived.Test.YtokeaoapcjlmkaaDoorGrRefSet
namespace Go.Proofs.YtokeaoapcjlmkaaDoor
open Go.RowKit Go.Shelf Cr Gd

theorem fine_clear_any {W H : Int} {L : List (List C)} (hs : SmR L) (f t c : Int) : Fine (clearR W H L f t c) W H := by
  by_cases h : gE W H L = 0
  · obtain ⟨v, k, rfl, rfl, g⟩ := gE_good h
    exact fine_clear g hs f t c
  · rw [clearR_1 h]
    exact fine_bad (by decide) _ _
theorem fine_set_any {W H : Int} {L : List (List C)} (hs : SmR L) (row : Int) {l : List C} (hl : Sm l) : Fine (setR W H L row l) W H := by
  by_cases h : gE W H L = 0
  · obtain ⟨v, k, rfl, rfl, g⟩ := gE_good h
    by_cases h2 : 0 ≤ row ∧ row < (k : Int)
    · rw [setR_3 h h2]
      split
      · rename_i h3; exact fine_bad h3 _ _
      · split
        · exact fine_bad (by decide) _ _
        · rename_i h3 h4
          have hp := check_zero.1 (Decidable.not_not.1 h3)
          exact .inr ⟨rfl, rfl, rfl, good_gE (g.set _ (by omega) hp.2.2), hs.set _ hl⟩
    · rw [setR_2 h h2]
      exact fine_bad (by decide) _ _
  · rw [setR_1 h]
    exact fine_bad (by decide) _ _

set_option maxHeartbeats 2000000 in
set_option maxRecDepth 100000 in
theorem edits_walk (W H : Int) (A : Option Addr) (n c : Nat) (L : List (List C)) (row tq : Int) (B : Option Addr) (m d : Nat) (l : List C) (f b g : Int) (w : World) (hr : RdR w A n L) (hnc : n ≤ c) (hmax : n ≤ 9223372036854775807) (hl0 : In w (.slice B m d) l) (hT : Lib.Utf8Tabs 0 1 w) :
    Calls Tryd.prog 5 #[.agg #[.int .i64 W, .int .i64 H, .slice A n c], .int .i64 row, .int .i64 tq, .slice B m d, .agg #[.int .i64 f, .int .i64 b, .int .i64 g]] w fun e w' => e = .returned (.bool true) ∧ Below w.heap.size w w' := by
  obtain ⟨B', m', d', el, hrl, hmd, hnil, hm63⟩ := hl0
  injection el with e1 e2 e3
  subst e1 e2 e3
  obtain ⟨V, hV⟩ : ∃ V, (w.alloc (.cells #[.int .i64 W, .int .i64 H, .slice A n c] 24)).alloc (.cells #[.int .i64 f, .int .i64 b, .int .i64 g] 34) = V := ⟨_, rfl⟩
  obtain ⟨k1, kA, bV⟩ := ga_in w W H A n c f b g
  rw [hV] at k1 kA bV
  have K1 := Lib.hid k1
  have KA : Hid (Ka V (w.heap.size + 1) f b g) := Lib.hid kA
  have BV := Lib.hid bV
  have HR := Lib.hid (fun U (h : Below V.heap.size V U) => hr.below (bV.trans (h.mono bV.size)))
  have HRL := Lib.hid (fun U (h : Below V.heap.size V U) => hrl.below (bV.trans (h.mono bV.size)))
  have HT := Lib.hid (fun U (h : Below V.heap.size V U) => Utf8Tabs_below hT (bV.trans (h.mono bV.size)))
  have CG := Lib.hid (greatR_any A n c L V (hr.below bV))
  have CW := Lib.hid (fun U (hu : Below V.heap.size V U) => awake_true U (HT.out U hu))
  have b2 := (Below.refl V.heap.size V).alloc (Nat.le_refl _) (.cells #[.slice B m d] 39)
  have hVs : V.heap.size = w.heap.size + 1 + 1 := by rw [← hV]; simp
  have CG2 := Lib.hid (greatR_any (some ⟨V.heap.size, 0, none⟩) 1 1 [l] _ (RdQ.one (v := .slice none 0 0) (h := .slice B m d) ⟨B, m, d, rfl, hrl.below bV, hmd, hnil, hm63⟩ (fun A m c e h p hp => by simp [Value.ownBlock])).rdr)
  rw [show (⟨V.heap.size, 0, none⟩ : Addr) = ⟨w.heap.size + 1 + 1, 0, none⟩ by rw [hVs]] at CG2
  have D2 := Lib.hid b2
  have p2 := k1.c2
  clear hVs
  clear hr hT k1 kA bV hrl
  cases hg : greatR L
  · rw [hg, if_neg (by decide)] at CG
    obtain ⟨hl10, hsm, hlen⟩ := greatR_false hg
    cases hg2 : greatR [l]
    · rw [hg2, if_neg (by decide)] at CG2
      obtain ⟨_, hsm2, hlen2⟩ := greatR_false hg2
      have hsl : Sm l := hsm2 l (by simp)
      have C1 := Lib.hid (fun U (hu : Below V.heap.size V U) => gset_any W H A n c L row B m d l U (HR.out U hu) hmax hsm (HRL.out U hu) hmd hm63 hsl (HT.out U hu))
      have C2 := Lib.hid (fun U (hu : Below V.heap.size V U) => rset_any W H A n c L row B m d l U (HR.out U hu) hmax hsm (HRL.out U hu) hm63 hsl)
      have C3 := Lib.hid (fun U (hu : Below V.heap.size V U) => gclear_any W H A n c L row tq f b g U (HR.out U hu) hnc hmax hsm (HT.out U hu))
      have C4 := Lib.hid (fun U (hu : Below V.heap.size V U) => rclear_any W H A n c L row tq f b g U (HR.out U hu) hmax hsm)
      have F1 := Lib.hid (fine_set_any (W := W) (H := H) hsm row hsl)
      have F2 := Lib.hid (fine_clear_any (W := W) (H := H) hsm row tq b)
      generalize setR W H L row l = R1 at C1 C2 F1
      generalize clearR W H L row tq b = R2 at C3 C4 F2
      have h1 : (((R1.E : Nat) : Int) != ((R1.E : Nat) : Int)) = false := by simp
      have h2 : (((R2.E : Nat) : Int) == ((R2.E : Nat) : Int)) = true := beq_self_eq_true _
      have Ca := Lib.hid (C1.out _ D2.out)
      clear hg hg2 hl10 hsm hlen hsm2 hlen2 hsl C1 b2
      subst hV
      go_enter Tryd.func5, Tryd.ntmps5
      go_wp2_with fail
      refine CG.out.mono ?_
      rintro e' w1 ⟨rfl, rfl⟩
      clear CG
      go_wp2_with fail
      refine CG2.out.mono ?_
      rintro e' w2 ⟨rfl, rfl⟩
      clear CG2 p2
      have p0 := (K1.out.below D2.out).c0
      have p1 := (K1.out.below D2.out).c1
      have p2 := (K1.out.below D2.out).c2
      go_wp2_with fail
      refine Ca.out.mono ?_
      rintro e' w3 ⟨A3, n3, c3, rfl, g3', b3⟩
      have bx := (Below.refl w3.heap.size w3).alloc (Nat.le_refl _) (.cells #[.int .i64 R1.W, .int .i64 R1.H, .slice A3 n3 c3] 24)
      have d3 := D2.out.trans ((b3.trans (bx.mono b3.size)).mono D2.out.size)
      have D3 := Lib.hid d3
      have HV3 := Lib.hid (D2.out.trans (b3.mono D2.out.size)).size
      have K3 := Lib.hid (Kg.new w3 R1.W R1.H A3 n3 c3)
      have G3 := Lib.hid (g3'.below bx)
      have Cb := Lib.hid (C2.out _ d3)
      clear g3' b3 bx p0 p1 p2 Ca C2
      have p0 := (K1.out.below d3).c0
      have p1 := (K1.out.below d3).c1
      have p2 := (K1.out.below d3).c2
      clear d3
      go_wp2_with fail
      refine Cb.out.mono ?_
      rintro e' w4 ⟨A4, n4, c4, rfl, g4, b4⟩
      have bx := (Below.refl w4.heap.size w4).alloc (Nat.le_refl _) (.cells #[.int .i64 R1.W, .int .i64 R1.H, .slice A4 n4 c4] 24)
      have s4 := b4.trans (bx.mono b4.size)
      have D4 := Lib.hid (D3.out.trans (s4.mono D3.out.size))
      have K34 := Lib.hid (K3.out.below s4)
      have K4 := Lib.hid (Kg.new w4 R1.W R1.H A4 n4 c4)
      have HV4 := Lib.hid (D3.out.trans (b4.mono D3.out.size)).size
      have HL34 := Lib.hid (Nat.lt_of_lt_of_le K3.out.lt b4.size)
      have hn3 : n3 ≤ 1000 := by have := fine_len F1.out; have := G3.out.1.1; omega
      have Cm := Lib.hid (same_g R1.W R1.H A3 A4 n3 n4 c3 c4 R1.L _ (G3.out.below s4).1 (g4.below bx).1 hn3 (fine_sz F1.out))
      have q0 := K34.out.c0
      have q1 := K34.out.c1
      have q2 := K34.out.c2
      clear g4 b4 bx s4 p0 p1 p2 Cb
      go_wp2_with fail
      refine Cm.out.mono ?_
      rintro e' w5 ⟨rfl, b5⟩
      have D5 := Lib.hid (D4.out.trans (b5.mono D4.out.size))
      have K35 := Lib.hid (K34.out.below b5)
      have K45 := Lib.hid (K4.out.below b5)
      have Cc := Lib.hid (C3.out w5 D5.out)
      clear b5 q0 q1 q2 Cm C3 G3
      have p0 := (K1.out.below D5.out).c0
      have p1 := (K1.out.below D5.out).c1
      have p2 := (K1.out.below D5.out).c2
      have a0 := (KA.out.below D5.out).c0
      have a1 := (KA.out.below D5.out).c1
      have a2 := (KA.out.below D5.out).c2
      go_wp2_with fail
      refine Cc.out.mono ?_
      rintro e' w6 ⟨A6, n6, c6, rfl, g6, b6⟩
      have k36 := K35.out.below b6
      have k46 := K45.out.below b6
      have x0 := k36.c0
      have x1 := k36.c1
      have x2 := k36.c2
      have xz := k36.z
      have KP := Lib.hid (k36.put R2.W R2.H A6 n6 c6)
      have KQ : Hid (Kg (g3 w6 w3.heap.size R2.W R2.H (.slice A6 n6 c6)) w4.heap.size R1.W R1.H A4 n4 c4) := Lib.hid ((g3_other w6 _ _ _ _ _ (by have := HL34.out; omega)).trans k46)
      have G6 := Lib.hid (g6.g3 k36 K35.out.lt R2.W R2.H (.slice A6 n6 c6))
      have d6 : Below ((w.alloc (.cells #[.int .i64 W, .int .i64 H, .slice A n c] 24)).alloc (.cells #[.int .i64 f, .int .i64 b, .int .i64 g] 34)).heap.size ((w.alloc (.cells #[.int .i64 W, .int .i64 H, .slice A n c] 24)).alloc (.cells #[.int .i64 f, .int .i64 b, .int .i64 g] 34)) (g3 w6 w3.heap.size R2.W R2.H (.slice A6 n6 c6)) := below_g3 (D5.out.trans (b6.mono D5.out.size)) HV3.out _ _ _
      have D6 := Lib.hid d6
      have HL6 := Lib.hid (show w4.heap.size < (g3 w6 w3.heap.size R2.W R2.H (.slice A6 n6 c6)).heap.size by rw [g3_size]; exact Nat.lt_of_lt_of_le K45.out.lt b6.size)
      clear k36 k46 g6 b6 p0 p1 p2 a0 a1 a2 Cc d6
      go_upto_region 8 with fail
      have hbase : (g3 w6 w3.heap.size R2.W R2.H (.slice A6 n6 c6)) = ((w6.setCell ⟨w3.heap.size, 0, none⟩ (.int .i64 R2.W)).setCell ⟨w3.heap.size, 1, none⟩ (.int .i64 R2.H)).setCell ⟨w3.heap.size, 2, none⟩ (.slice A6 n6 c6) := rfl
      rw [← hbase]
      generalize g3 w6 w3.heap.size R2.W R2.H (.slice A6 n6 c6) = U6 at KP KQ G6 D6 HL6 ⊢
      clear hbase x0 x1 x2 xz
      have Cd := Lib.hid (C4.out U6 D6.out)
      clear C4
      have p0 := (K1.out.below D6.out).c0
      have p1 := (K1.out.below D6.out).c1
      have p2 := (K1.out.below D6.out).c2
      have a0 := (KA.out.below D6.out).c0
      have a1 := (KA.out.below D6.out).c1
      have a2 := (KA.out.below D6.out).c2
      go_wp2_with fail
      refine Cd.out.mono ?_
      rintro e' w7 ⟨A7, n7, c7, rfl, g7, b7⟩
      have kp7 := KP.out.below b7
      have kq7 := KQ.out.below b7
      have y0 := kq7.c0
      have y1 := kq7.c1
      have y2 := kq7.c2
      have yz := kq7.z
      have KR := Lib.hid (kq7.put R2.W R2.H A7 n7 c7)
      have KS : Hid (Kg (g3 w7 w4.heap.size R2.W R2.H (.slice A7 n7 c7)) w3.heap.size R2.W R2.H A6 n6 c6) := Lib.hid ((g3_other w7 _ _ _ _ _ (by have := HL34.out; omega)).trans kp7)
      have G7 := Lib.hid (g7.g3 kq7 KQ.out.lt R2.W R2.H (.slice A7 n7 c7))
      have G67 := Lib.hid ((G6.out.below b7).g3 kq7 K45.out.lt R2.W R2.H (.slice A7 n7 c7))
      have d7 : Below ((w.alloc (.cells #[.int .i64 W, .int .i64 H, .slice A n c] 24)).alloc (.cells #[.int .i64 f, .int .i64 b, .int .i64 g] 34)).heap.size ((w.alloc (.cells #[.int .i64 W, .int .i64 H, .slice A n c] 24)).alloc (.cells #[.int .i64 f, .int .i64 b, .int .i64 g] 34)) (g3 w7 w4.heap.size R2.W R2.H (.slice A7 n7 c7)) := below_g3 (D6.out.trans (b7.mono D6.out.size)) HV4.out _ _ _
      have D7 := Lib.hid d7
      have hn6 : n6 ≤ 1000 := by have := fine_len F2.out; have := G67.out.1.1; omega
      clear d7 g7 b7 kp7 kq7 Cd p0 p1 p2 a0 a1 a2
      go_upto_region 9 with fail
      have hbase : (g3 w7 w4.heap.size R2.W R2.H (.slice A7 n7 c7)) = ((w7.setCell ⟨w4.heap.size, 0, none⟩ (.int .i64 R2.W)).setCell ⟨w4.heap.size, 1, none⟩ (.int .i64 R2.H)).setCell ⟨w4.heap.size, 2, none⟩ (.slice A7 n7 c7) := rfl
      rw [← hbase]
      generalize g3 w7 w4.heap.size R2.W R2.H (.slice A7 n7 c7) = U7 at KR KS G7 G67 D7 ⊢
      clear hbase y0 y1 y2 yz
      have Cn := Lib.hid (same_g R2.W R2.H A6 A7 n6 n7 c6 c7 R2.L U7 G67.out.1 G7.out.1 hn6 (fine_sz F2.out))
      have z0 := KS.out.c0
      have z1 := KS.out.c1
      have z2 := KS.out.c2
      have v0 := KR.out.c0
      have v1 := KR.out.c1
      have v2 := KR.out.c2
      go_wp2_with fail
      refine Cn.out.mono ?_
      rintro e' w8 ⟨rfl, b8⟩
      have D8 := Lib.hid (D7.out.trans (b8.mono D7.out.size))
      have CW8 := Lib.hid (CW.out w8 D8.out)
      clear b8 z0 z1 z2 v0 v1 v2 Cn
      go_wp2_with fail
      refine CW8.out.mono ?_
      rintro e' w9 ⟨rfl, b9⟩
      have B9 := Lib.hid (BV.out.trans ((D8.out.trans (b9.mono D8.out.size)).mono BV.out.size))
      clear b9
      go_wp2
      go_ret
      exact ⟨rfl, B9.out⟩
    · rw [hg2, if_pos rfl] at CG2
      have CW1 := Lib.hid (CW.out _ D2.out)
      clear hg hg2 hl10 hsm hlen b2
      subst hV
      go_enter Tryd.func5, Tryd.ntmps5
      go_wp2_with fail
      refine CG.out.mono ?_
      rintro e' w1 ⟨rfl, rfl⟩
      go_wp2_with fail
      refine CG2.out.mono ?_
      rintro e' w2 ⟨rfl, rfl⟩
      go_wp2_with fail
      refine CW1.out.mono ?_
      rintro e' w3 ⟨rfl, b3⟩
      have B3 := Lib.hid (BV.out.trans ((D2.out.trans (b3.mono D2.out.size)).mono BV.out.size))
      clear b3
      go_wp2
      go_ret
      exact ⟨rfl, B3.out⟩
  · rw [hg, if_pos rfl] at CG
    have CW1 := Lib.hid (CW.out V (Below.refl _ _))
    clear hg b2 CG2
    subst hV
    go_enter Tryd.func5, Tryd.ntmps5
    go_wp2_with fail
    refine CG.out.mono ?_
    rintro e' w1 ⟨rfl, rfl⟩
    go_wp2_with fail
    refine CW1.out.mono ?_
    rintro e' w2 ⟨rfl, b2⟩
    have B2 := Lib.hid (BV.out.trans (b2.mono BV.out.size))
    clear b2
    go_wp2
    go_ret
    exact ⟨rfl, B2.out⟩

end Go.Proofs.YtokeaoapcjlmkaaDoor
