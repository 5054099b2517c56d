/-
  The statement on Resize and the document's own returns true.
-/
import Derived.Test.YtokeaoapcjlmkaaDoorGrCheckWalk
import Derived.Test.YtokeaoapcjlmkaaDoorGrRefRes
namespace Go.Proofs.YtokeaoapcjlmkaaDoor
open Go.RowKit Go.Shelf Cr Gd

theorem fine_resize_any {W H : Int} {L : List (List C)} (hs : SmR L) (x y : Int) : Fine (resizeR W H L x y) x y := by
  by_cases h : gE W H L = 0
  · obtain ⟨v, k, rfl, rfl, g⟩ := gE_good h
    exact fine_resize g hs x y
  · rw [resizeR_1 h]
    exact fine_bad (by decide) _ _

set_option maxHeartbeats 4000000 in
set_option maxRecDepth 100000 in
theorem resizelaw_walk (W H : Int) (A : Option Addr) (n c : Nat) (L : List (List C)) (x y : Int) (w : World) (hr : RdR w A n L) (hnc : n ≤ c) (hmax : n ≤ 9223372036854775807) (hT : Lib.Utf8Tabs 0 1 w) :
    Calls Tryd.prog 6 #[.agg #[.int .i64 W, .int .i64 H, .slice A n c], .int .i64 x, .int .i64 y] w fun e w' => e = .returned (.bool true) ∧ Below w.heap.size w w' := by
  obtain ⟨V, hV⟩ : ∃ V, w.alloc (.cells #[.int .i64 W, .int .i64 H, .slice A n c] 24) = V := ⟨_, rfl⟩
  have bV : Below w.heap.size w V := by rw [← hV]; exact (Below.refl _ _).alloc (Nat.le_refl _) _
  have k1 : Kg V w.heap.size W H A n c := by rw [← hV]; exact heap_alloc_new w _
  have K1 := Lib.hid k1
  have BV := Lib.hid bV
  have HR := Lib.hid (fun U (h : Below V.heap.size V U) => hr.below (bV.trans (h.mono bV.size)))
  have HT := Lib.hid (fun U (h : Below V.heap.size V U) => Utf8Tabs_below hT (bV.trans (h.mono bV.size)))
  have CG := Lib.hid (greatR_any A n c L V (hr.below bV))
  have CW := Lib.hid (fun U (hu : Below V.heap.size V U) => awake_true U (HT.out U hu))
  clear hr hT k1 bV
  cases hg : greatR L
  · rw [hg, if_neg (by decide)] at CG
    obtain ⟨hl10, hsm, hlen⟩ := greatR_false hg
    have CN := Lib.hid (fun U (hu : Below V.heap.size V U) => gresize_any W H A n c L x y U (HR.out U hu) hnc hmax hsm (HT.out U hu))
    have CM := Lib.hid (fun U (hu : Below V.heap.size V U) => rresize_any W H A n c L x y U (HR.out U hu) hmax hsm)
    have HF := Lib.hid (fine_resize_any (W := W) (H := H) hsm x y)
    generalize resizeR W H L x y = R at CN CM HF
    have hee : (((R.E : Nat) : Int) == ((R.E : Nat) : Int)) = true := beq_self_eq_true _
    have p0 := K1.out.c0
    have p1 := K1.out.c1
    have p2 := K1.out.c2
    have CN1 := Lib.hid (CN.out V (Below.refl _ _))
    clear hg hl10 hsm hlen CN
    subst hV
    go_enter Tryd.func6, Tryd.ntmps6
    go_wp2_with fail
    refine CG.out.mono ?_
    rintro e' w1 ⟨rfl, rfl⟩
    clear CG
    go_wp2_with fail
    refine CN1.out.mono ?_
    rintro e' w2 ⟨A2, n2, c2, rfl, g2, b2⟩
    have bx := (Below.refl w2.heap.size w2).alloc (Nat.le_refl _) (.cells #[.int .i64 R.W, .int .i64 R.H, .slice A2 n2 c2] 24)
    have d2 := b2.trans (bx.mono b2.size)
    have D2 := Lib.hid d2
    have K2 := Lib.hid (Kg.new w2 R.W R.H A2 n2 c2)
    have G2 := Lib.hid (g2.below bx)
    have CM1 := Lib.hid (CM.out _ d2)
    clear g2 b2 bx CN1 CM p0 p1 p2
    have p0 := (K1.out.below d2).c0
    have p1 := (K1.out.below d2).c1
    have p2 := (K1.out.below d2).c2
    clear d2
    go_wp2_with fail
    refine CM1.out.mono ?_
    rintro e' w3 ⟨A3, n3, c3, rfl, g3, b3⟩
    have bx := (Below.refl w3.heap.size w3).alloc (Nat.le_refl _) (.cells #[.int .i64 R.W, .int .i64 R.H, .slice A3 n3 c3] 24)
    have s3 := b3.trans (bx.mono b3.size)
    have D3 := Lib.hid (D2.out.trans (s3.mono D2.out.size))
    have q0 := (K2.out.below s3).c0
    have q1 := (K2.out.below s3).c1
    have q2 := (K2.out.below s3).c2
    have hn2 : n2 ≤ 1000 := by have := fine_len HF.out; have := G2.out.1.1; omega
    have SM := Lib.hid (same_g R.W R.H A2 A3 n2 n3 c2 c3 R.L _ (G2.out.below s3).1 (g3.below bx).1 hn2 (fine_sz HF.out))
    clear g3 b3 bx s3 CM1 p0 p1 p2
    go_wp2_with fail
    refine SM.out.mono ?_
    rintro e' w4 ⟨rfl, b4⟩
    have D4 := Lib.hid (D3.out.trans (b4.mono D3.out.size))
    have CW4 := Lib.hid (CW.out w4 D4.out)
    clear b4 SM q0 q1 q2
    go_wp2_with fail
    refine CW4.out.mono ?_
    rintro e' w5 ⟨rfl, b5⟩
    have B5 := Lib.hid (BV.out.trans ((D4.out.trans (b5.mono D4.out.size)).mono BV.out.size))
    clear b5
    go_wp2
    go_ret
    exact ⟨rfl, B5.out⟩
  · rw [hg, if_pos rfl] at CG
    clear hg
    have CW1 := Lib.hid (CW.out V (Below.refl _ _))
    subst hV
    go_enter Tryd.func6, Tryd.ntmps6
    go_wp2_with fail
    refine CG.out.mono ?_
    rintro e' w1 ⟨rfl, rfl⟩
    go_wp2_with fail
    refine CW1.out.mono ?_
    rintro e' w2 ⟨rfl, b2⟩
    have B2 := Lib.hid (BV.out.trans (b2.mono BV.out.size))
    clear b2
    go_wp2
    go_ret
    exact ⟨rfl, B2.out⟩

end Go.Proofs.YtokeaoapcjlmkaaDoor
