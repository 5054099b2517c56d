/-
  The statement on Scroll and the document's own returns true.
-/
import Derived.Test.YtokeaoapcjlmkaaDoorGrCheckWalk
import Derived.Test.YtokeaoapcjlmkaaDoorGrRefScroll
namespace Go.Proofs.YtokeaoapcjlmkaaDoor
open Go.RowKit Go.Shelf Cr Gd

theorem fine_scroll_any {W H : Int} {L : List (List C)} (hs : SmR L) (t u d c : Int) : Fine (scrollR W H L t u d c) W H := by
  by_cases h : gE W H L = 0
  · obtain ⟨v, k, rfl, rfl, g⟩ := gE_good h
    exact fine_scroll g hs t u d c
  · rw [scrollR_1 h]
    exact fine_bad (by decide) _ _
theorem scroll_M {W H : Int} {L : List (List C)} (hz : Sz L) (hl : L.length ≤ 10) (t u d c : Int) : Sz (scrollR W H L t u d c).M ∧ (scrollR W H L t u d c).M.length ≤ 10 := by
  unfold scrollR
  split
  · exact ⟨(fun l hl => absurd hl (List.not_mem_nil)), Nat.zero_le _⟩
  · split
    · exact ⟨(fun l hl => absurd hl (List.not_mem_nil)), Nat.zero_le _⟩
    · refine ⟨fun l hl' => hz l (List.mem_of_mem_drop (List.mem_of_mem_take hl')), ?_⟩
      show (out _ _ _).length ≤ 10
      unfold out
      rw [List.length_take, List.length_drop]
      omega

set_option maxHeartbeats 2000000 in
set_option maxRecDepth 100000 in
theorem scrolllaw_walk (W H : Int) (A : Option Addr) (n c : Nat) (L : List (List C)) (tp bt d f b g : Int) (w : World) (hr : RdR w A n L) (hnc : n ≤ c) (hmax : n ≤ 9223372036854775807) (hT : Lib.Utf8Tabs 0 1 w) :
    Calls Tryd.prog 4 #[.agg #[.int .i64 W, .int .i64 H, .slice A n c], .int .i64 tp, .int .i64 bt, .int .i64 d, .agg #[.int .i64 f, .int .i64 b, .int .i64 g]] w fun e w' => e = .returned (.bool true) ∧ Below w.heap.size w w' := by
  obtain ⟨V, hV⟩ : ∃ V, (w.alloc (.cells #[.int .i64 W, .int .i64 H, .slice A n c] 24)).alloc (.cells #[.int .i64 f, .int .i64 b, .int .i64 g] 34) = V := ⟨_, rfl⟩
  obtain ⟨k1, kA, bV⟩ := ga_in w W H A n c f b g
  rw [hV] at k1 kA bV
  have K1 := Lib.hid k1
  have KA : Hid (Ka V (w.heap.size + 1) f b g) := Lib.hid kA
  have BV := Lib.hid bV
  have HR := Lib.hid (fun U (h : Below V.heap.size V U) => hr.below (bV.trans (h.mono bV.size)))
  have HT := Lib.hid (fun U (h : Below V.heap.size V U) => Utf8Tabs_below hT (bV.trans (h.mono bV.size)))
  have CG := Lib.hid (greatR_any A n c L V (hr.below bV))
  have CW := Lib.hid (fun U (hu : Below V.heap.size V U) => awake_true U (HT.out U hu))
  clear hr hT bV
  cases hg : greatR L
  · rw [hg, if_neg (by decide)] at CG
    obtain ⟨hl10, hsm, hlen⟩ := greatR_false hg
    have CN := Lib.hid (fun U (hu : Below V.heap.size V U) => gscroll_any W H A n c L tp bt d f b g U (HR.out U hu) hnc hmax hsm (HT.out U hu))
    have CM := Lib.hid (fun U (hu : Below V.heap.size V U) => rscroll_any W H A n c L tp bt d f b g U (HR.out U hu) hmax hsm)
    have HF := Lib.hid (fine_scroll_any (W := W) (H := H) hsm tp bt d b)
    have HM := Lib.hid (scroll_M (W := W) (H := H) (L := L) (fun l hl => by have := hlen l hl; omega) hl10 tp bt d b)
    generalize scrollR W H L tp bt d b = R at CN CM HF HM
    have hee : (((R.E : Nat) : Int) == ((R.E : Nat) : Int)) = true := beq_self_eq_true _
    have p0 := k1.c0
    have p1 := k1.c1
    have p2 := k1.c2
    have a0 := KA.out.c0
    have a1 := KA.out.c1
    have a2 := KA.out.c2
    have CN1 := Lib.hid (CN.out V (Below.refl _ _))
    clear hg hl10 hsm hlen CN k1 kA
    subst hV
    go_enter Tryd.func4, Tryd.ntmps4
    go_wp2_with fail
    refine CG.out.mono ?_
    rintro e' w1 ⟨rfl, rfl⟩
    clear CG
    go_wp2_with fail
    refine CN1.out.mono ?_
    rintro e' w2 ⟨A2, n2, c2, B2, m2, e2, rfl, g2, g2', b2⟩
    have bx := (Below.refl w2.heap.size w2).alloc (Nat.le_refl _) (.cells #[.int .i64 R.W, .int .i64 R.H, .slice A2 n2 c2] 24)
    have d2 := b2.trans (bx.mono b2.size)
    have D2 := Lib.hid d2
    have K2 := Lib.hid (Kg.new w2 R.W R.H A2 n2 c2)
    have G2 := Lib.hid (g2.below bx)
    have G2' := Lib.hid (g2'.below bx)
    have CM1 := Lib.hid (CM.out _ d2)
    clear g2 g2' b2 bx CN1 CM p0 p1 p2 a0 a1 a2
    have p0 := (K1.out.below d2).c0
    have p1 := (K1.out.below d2).c1
    have p2 := (K1.out.below d2).c2
    have a0 := (KA.out.below d2).c0
    have a1 := (KA.out.below d2).c1
    have a2 := (KA.out.below d2).c2
    clear d2
    go_wp2_with fail
    refine CM1.out.mono ?_
    rintro e' w3 ⟨A3, n3, c3, B3, m3, e3, rfl, g3, g3', b3⟩
    have bx := (Below.refl w3.heap.size w3).alloc (Nat.le_refl _) (.cells #[.int .i64 R.W, .int .i64 R.H, .slice A3 n3 c3] 24)
    have s3 := b3.trans (bx.mono b3.size)
    have D3 := Lib.hid (D2.out.trans (s3.mono D2.out.size))
    have q0 := (K2.out.below s3).c0
    have q1 := (K2.out.below s3).c1
    have q2 := (K2.out.below s3).c2
    have hn2 : n2 ≤ 1000 := by have := fine_len HF.out; have := G2.out.1.1; omega
    have hm2 : m2 ≤ 1000 := by have := HM.out.2; have := G2'.out.1.1; omega
    have M2 := Lib.hid (G2'.out.below s3)
    have M3 := Lib.hid (g3'.below bx)
    have hm3 : m3 ≤ 1000 := by have := HM.out.2; have := M3.out.1.1; omega
    have SM := Lib.hid (same_g R.W R.H A2 A3 n2 n3 c2 c3 R.L _ (G2.out.below s3).1 (g3.below bx).1 hn2 (fine_sz HF.out))
    clear g3 g3' b3 bx s3 CM1 p0 p1 p2 a0 a1 a2
    go_wp2_with fail
    refine SM.out.mono ?_
    rintro e' w4 ⟨rfl, b4⟩
    have D4 := Lib.hid (D3.out.trans (b4.mono D3.out.size))
    have SR := Lib.hid (sameRows_any B2 B3 m2 m3 e2 e3 R.M R.M w4 (M2.out.below b4).1 (M3.out.below b4).1 hm2 hm3 HM.out.1 HM.out.1)
    rw [decide_eq_true rfl] at SR
    clear b4 SM q0 q1 q2
    go_wp2_with fail
    refine SR.out.mono ?_
    rintro e' w5 ⟨rfl, b5⟩
    have D5 := Lib.hid (D4.out.trans (b5.mono D4.out.size))
    have CW5 := Lib.hid (CW.out w5 D5.out)
    clear b5 SR
    go_wp2_with fail
    refine CW5.out.mono ?_
    rintro e' w6 ⟨rfl, b6⟩
    have B6 := Lib.hid (BV.out.trans ((D5.out.trans (b6.mono D5.out.size)).mono BV.out.size))
    clear b6
    go_wp2
    go_ret
    exact ⟨rfl, B6.out⟩
  · rw [hg, if_pos rfl] at CG
    clear hg
    have CW1 := Lib.hid (CW.out V (Below.refl _ _))
    have p2 := k1.c2
    clear k1 kA
    subst hV
    go_enter Tryd.func4, Tryd.ntmps4
    go_wp2_with fail
    refine CG.out.mono ?_
    rintro e' w1 ⟨rfl, rfl⟩
    go_wp2_with fail
    refine CW1.out.mono ?_
    rintro e' w2 ⟨rfl, b2⟩
    have B2 := Lib.hid (BV.out.trans (b2.mono BV.out.size))
    clear b2
    go_wp2
    go_ret
    exact ⟨rfl, B2.out⟩

end Go.Proofs.YtokeaoapcjlmkaaDoor
