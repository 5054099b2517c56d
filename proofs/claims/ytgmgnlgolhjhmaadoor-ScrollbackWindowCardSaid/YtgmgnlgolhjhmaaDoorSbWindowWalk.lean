/-
  The statement on Window and the document's own returns true.
-/
import Derived.Test.YtgmgnlgolhjhmaaDoorSbLaws
namespace Go.Proofs.YtgmgnlgolhjhmaaDoor
open Go.RowKit Go.Shelf Cr Gd

set_option maxHeartbeats 1000000 in
set_option maxRecDepth 100000 in
theorem window_walk (A : Option Addr) (n c : Nat) (L : List (List C)) (W H : Int) (A2 : Option Addr) (n2 c2 : Nat) (G : List (List C)) (back : Int) (w : World) (hr : RdR w A n L) (hnc : n ≤ c) (hmax : n ≤ 9223372036854775807) (hnil : A = none → n = 0 ∧ c = 0) (hr2 : RdR w A2 n2 G) (hnc2 : n2 ≤ c2) (hmax2 : n2 ≤ 9223372036854775807) (hT : Lib.Utf8Tabs 0 1 w) :
    Calls Tryd.prog 4 #[.slice A n c, .agg #[.int .i64 W, .int .i64 H, .slice A2 n2 c2], .int .i64 back] w fun e w' => e = .returned (.bool true) ∧ Below w.heap.size w w' := by
  obtain ⟨V, hV⟩ : ∃ V, w.alloc (.cells #[.int .i64 W, .int .i64 H, .slice A2 n2 c2] 35) = V := ⟨_, rfl⟩
  have bV : Below w.heap.size w V := by rw [← hV]; exact (Below.refl _ _).alloc (Nat.le_refl _) _
  have k1 : Kg V w.heap.size W H A2 n2 c2 := by rw [← hV]; exact heap_alloc_new w _
  have K1 := Lib.hid k1
  have BV := Lib.hid bV
  have HR := Lib.hid (fun U (h : Below V.heap.size V U) => hr.below (bV.trans (h.mono bV.size)))
  have HR2 := Lib.hid (fun U (h : Below V.heap.size V U) => hr2.below (bV.trans (h.mono bV.size)))
  have HT := Lib.hid (fun U (h : Below V.heap.size V U) => Utf8Tabs_below hT (bV.trans (h.mono bV.size)))
  have CG := Lib.hid (greatS_any A n c L V (hr.below bV))
  have CG2 := Lib.hid (greatR_any A2 n2 c2 G V (hr2.below bV))
  have CW := Lib.hid (fun U (hu : Below V.heap.size V U) => awake_true U (HT.out U hu))
  have p2 := k1.c2
  have hlL : L.length = n := hr.1
  clear hr hr2 hT k1 bV
  cases hg : greatS L
  · rw [hg, if_neg (by decide)] at CG
    cases hg2 : greatR G
    · rw [hg2, if_neg (by decide)] at CG2
      obtain ⟨hl12, hsm, hlen⟩ := greatS_false hg
      obtain ⟨hm10, hsm2, hlen2⟩ := greatR_false hg2
      have hz : Sz L := fun l hl => by have := hlen l hl; omega
      have CN := Lib.hid (fun U (hu : Below V.heap.size V U) => window_any A n c L W H A2 n2 c2 G back U (HR.out U hu) hnc hmax (fun e => (hnil e).2) (HR2.out U hu) hnc2 hmax2 hsm hsm2 (HT.out U hu))
      have CM := Lib.hid (fun U (hu : Below V.heap.size V U) => rwindow_any A n c L W H A2 n2 c2 G back U (HR.out U hu) (by omega) (HR2.out U hu) hmax2 hsm hsm2 hz)
      have HZ := Lib.hid (winR_sz (W := W) (H := H) (back := back) hsm hsm2)
      have HF := Lib.hid (winR_fine (W := W) (H := H) (back := back) hsm hsm2)
      generalize winR L W H G back = R at CN CM HZ HF
      have hee : (((R.E : Nat) : Int) == ((R.E : Nat) : Int)) = true := beq_self_eq_true _
      have CN1 := Lib.hid (CN.out V (Below.refl _ _))
      have p0 := K1.out.c0
      have p1 := K1.out.c1
      clear hg hg2 hl12 hsm hlen hm10 hsm2 hlen2 hz CN hnil hnc hnc2 hmax hmax2 hlL
      subst hV
      go_enter Tryd.func4, Tryd.ntmps4
      go_wp2_with fail
      refine CG.out.mono ?_
      rintro e v0 ⟨rfl, rfl⟩
      go_wp2_with fail
      refine CG2.out.mono ?_
      rintro e v1 ⟨rfl, rfl⟩
      go_wp2_with fail
      refine CN1.out.mono ?_
      rintro e w2 ⟨A3, n3, c3, rfl, g3, b3⟩
      have bx := (Below.refl w2.heap.size w2).alloc (Nat.le_refl _) (.cells #[.int .i64 R.W, .int .i64 R.H, .slice A3 n3 c3] 35)
      have d2 := b3.trans (bx.mono b3.size)
      have D2 := Lib.hid d2
      have K2 := Lib.hid (Kg.new w2 R.W R.H A3 n3 c3)
      have G2 := Lib.hid (g3.below bx)
      have CM1 := Lib.hid (CM.out _ d2)
      clear g3 b3 bx CN1 CM p0 p1 p2
      have p0 := (K1.out.below d2).c0
      have p1 := (K1.out.below d2).c1
      have p2 := (K1.out.below d2).c2
      clear d2
      go_wp2_with fail
      refine CM1.out.mono ?_
      rintro e w3 ⟨A4, n4, c4, rfl, g4, b4⟩
      have bx := (Below.refl w3.heap.size w3).alloc (Nat.le_refl _) (.cells #[.int .i64 R.W, .int .i64 R.H, .slice A4 n4 c4] 35)
      have s3 := b4.trans (bx.mono b4.size)
      have D3 := Lib.hid (D2.out.trans (s3.mono D2.out.size))
      have K3 := Lib.hid (K2.out.below s3)
      have q0 := (K2.out.below s3).c0
      have q1 := (K2.out.below s3).c1
      have q2 := (K2.out.below s3).c2
      have hn3 : n3 ≤ 1000 := by have := HZ.out.2; have := G2.out.1.1; omega
      have G3 := Lib.hid (G2.out.below s3)
      have SM := Lib.hid (same_g R.W R.H A3 A4 n3 n4 c3 c4 R.L _ (G2.out.below s3).1 (g4.below bx).1 hn3 HZ.out.1)
      clear g4 b4 bx s3 CM1 p0 p1 p2
      go_wp2_with fail
      refine SM.out.mono ?_
      rintro e w4 ⟨rfl, b4⟩
      have D4 := Lib.hid (D3.out.trans (b4.mono D3.out.size))
      have r0 := (K3.out.below b4).c0
      have r1 := (K3.out.below b4).c1
      have r2 := (K3.out.below b4).c2
      have R4 := Lib.hid (G3.out.1.below b4)
      have CW4 := Lib.hid (CW.out w4 D4.out)
      clear b4 SM q0 q1 q2
      by_cases hE : R.E = 0
      · have hE1 : (((R.E : Nat) : Int) != 0) = false := by rw [hE]; rfl
        obtain ⟨hf1, hf2⟩ := HF.out hE
        have CK := Lib.hid (gcheck_any R.W R.H A3 n3 c3 R.L w4 R4.out (by omega) hf2 (HT.out w4 D4.out))
        rw [hf1] at CK
        clear hf1 hf2 hE
        go_wp2_with fail
        refine CK.out.mono ?_
        rintro e w5 ⟨rfl, b5⟩
        have D5 := Lib.hid (D4.out.trans (b5.mono D4.out.size))
        have CW5 := Lib.hid (CW.out w5 D5.out)
        clear b5 CK CW4 r0 r1 r2
        go_wp2_with fail
        refine CW5.out.mono ?_
        rintro e w6 ⟨rfl, b6⟩
        have B6 := Lib.hid (BV.out.trans ((D5.out.trans (b6.mono D5.out.size)).mono BV.out.size))
        clear b6
        go_wp2
        go_ret
        exact ⟨rfl, B6.out⟩
      · have hE1 : (((R.E : Nat) : Int) != 0) = true := nat_ne hE
        clear hE
        go_wp2_with fail
        refine CW4.out.mono ?_
        rintro e w6 ⟨rfl, b6⟩
        have B6 := Lib.hid (BV.out.trans ((D4.out.trans (b6.mono D4.out.size)).mono BV.out.size))
        clear b6
        go_wp2
        go_ret
        exact ⟨rfl, B6.out⟩
    · rw [hg2, if_pos rfl] at CG2
      have CW1 := Lib.hid (CW.out V (Below.refl _ _))
      clear hg hg2 hnil hnc hnc2 hmax hmax2 hlL
      subst hV
      go_enter Tryd.func4, Tryd.ntmps4
      go_wp2_with fail
      refine CG.out.mono ?_
      rintro e v0 ⟨rfl, rfl⟩
      go_wp2_with fail
      refine CG2.out.mono ?_
      rintro e v1 ⟨rfl, rfl⟩
      go_wp2_with fail
      refine CW1.out.mono ?_
      rintro e w2 ⟨rfl, b2⟩
      have B2 := Lib.hid (BV.out.trans (b2.mono BV.out.size))
      clear b2
      go_wp2
      go_ret
      exact ⟨rfl, B2.out⟩
  · rw [hg, if_pos rfl] at CG
    have CW1 := Lib.hid (CW.out V (Below.refl _ _))
    clear hg hnil hnc hnc2 hmax hmax2 hlL CG2
    subst hV
    go_enter Tryd.func4, Tryd.ntmps4
    go_wp2_with fail
    refine CG.out.mono ?_
    rintro e v0 ⟨rfl, rfl⟩
    go_wp2_with fail
    refine CW1.out.mono ?_
    rintro e w2 ⟨rfl, b2⟩
    have B2 := Lib.hid (BV.out.trans (b2.mono BV.out.size))
    clear b2
    go_wp2
    go_ret
    exact ⟨rfl, B2.out⟩

end Go.Proofs.YtgmgnlgolhjhmaaDoor
