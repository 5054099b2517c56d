/-
  What within of the document's own answers returns at control characters and at bytes of 128 or more.
-/
import Derived.Test.YtihfjkjbeeoanaaDoorRefCtl
namespace Go.Proofs.YtihfjkjbeeoanaaDoor
open Go.RowKit

set_option maxHeartbeats 1000000 in
set_option maxRecDepth 100000 in
theorem refwithin_ctl (p : Vt.P) (b : UInt8) (w : World) (hc : Vt.isCtl b = true) :
    Calls Tryd.prog 15 #[.agg #[.int .i64 p.st, .string (ba p.pe), .string (ba p.bu)], .int .u8 (b.toNat : Int)] w (Gone w (Vt.control p b).1 (Vt.control p b).2) := by
  obtain ⟨R, hR⟩ : ∃ R, Vt.control p b = R := ⟨_, rfl⟩
  rw [hR]
  unfold Vt.control at hR
  obtain ⟨st, pe, bu⟩ := p
  by_cases h1 : b.toNat = 27
  · rw [if_pos h1] at hR
    subst hR
    rw [h1]
    go_enter Tryd.func15, Tryd.ntmps15
    go_wp2
    refine bodyPost_ret (res_two rfl _ _ _ Vt.inEsc rfl (begun_res w ⟨st, pe, bu⟩ Vt.inEsc)) rfl ⟨_, _, _, rfl, ?_⟩
    exact begun_none w ⟨st, pe, bu⟩ Vt.inEsc
  · rw [if_neg h1] at hR
    by_cases h2 : b.toNat = 24
    · rw [if_pos (.inl h2)] at hR
      subst hR
      rw [h2]
      go_enter Tryd.func15, Tryd.ntmps15
      go_wp2
      refine bodyPost_ret (res_two rfl _ _ _ Vt.zero rfl (begun_res w ⟨st, pe, bu⟩ Vt.zero)) rfl ⟨_, _, _, rfl, ?_⟩
      exact begun_none w ⟨st, pe, bu⟩ Vt.zero
    · by_cases h3 : b.toNat = 26
      · rw [if_pos (.inr h3)] at hR
        subst hR
        rw [h3]
        go_enter Tryd.func15, Tryd.ntmps15
        go_wp2
        refine bodyPost_ret (res_two rfl _ _ _ Vt.zero rfl (begun_res w ⟨st, pe, bu⟩ Vt.zero)) rfl ⟨_, _, _, rfl, ?_⟩
        exact begun_none w ⟨st, pe, bu⟩ Vt.zero
      · rw [if_neg (by omega)] at hR
        by_cases h4 : b.toNat = 127
        · rw [if_pos h4] at hR
          subst hR
          rw [h4]
          go_enter Tryd.func15, Tryd.ntmps15
          go_wp2
          refine bodyPost_ret (res_two rfl _ _ _ ⟨st, pe, bu⟩ rfl (begun_res w ⟨st, pe, bu⟩ ⟨st, pe, bu⟩)) rfl ⟨_, _, _, rfl, ?_⟩
          exact begun_none w ⟨st, pe, bu⟩ ⟨st, pe, bu⟩
        · rw [if_neg h4] at hR
          subst hR
          have z1 : ((b.toNat : Int) == 27) = false := by simp; omega
          have z2 : ((b.toNat : Int) == 24) = false := by simp; omega
          have z3 : ((b.toNat : Int) == 26) = false := by simp; omega
          have z4 : (b.toNat : Int) < 32 := by
            unfold Vt.isCtl at hc
            simp only [Bool.or_eq_true, decide_eq_true_eq] at hc
            omega
          clear hc
          go_enter Tryd.func15, Tryd.ntmps15
          go_wp2
          refine bodyPost_ret (res_two rfl _ _ _ ⟨st, pe, bu⟩ rfl (begun_one_res w ⟨st, pe, bu⟩ ⟨st, pe, bu⟩ _)) rfl ⟨_, _, _, rfl, ?_⟩
          exact begun_one w ⟨st, pe, bu⟩ ⟨st, pe, bu⟩ (Vt.ctl b) rfl _ rfl

set_option maxHeartbeats 1000000 in
set_option maxRecDepth 100000 in
theorem refwithin_high (p : Vt.P) (b : UInt8) (w : World) (hb : 128 ≤ b.toNat) :
    Calls Tryd.prog 15 #[.agg #[.int .i64 p.st, .string (ba p.pe), .string (ba p.bu)], .int .u8 (b.toNat : Int)] w (Gone w (Vt.ground [] b).1 (Vt.ground [] b).2) := by
  obtain ⟨st, pe, bu⟩ := p
  have F := Lib.hid (Bg.start w ⟨st, pe, bu⟩)
  have CG := Lib.hid (refground_text Vt.zero b (begun w ⟨st, pe, bu⟩ Vt.zero) (by unfold Vt.isCtl; rw [decide_eq_false (by omega), decide_eq_false (by omega)]; rfl) (.inl rfl))
  have hz : Vt.zero.pe = [] := rfl
  rw [hz] at CG
  generalize Vt.ground [] b = R at CG ⊢
  have z1 : ((b.toNat : Int) == 27) = false := by simp; omega
  have z2 : ((b.toNat : Int) == 24) = false := by simp; omega
  have z3 : ((b.toNat : Int) == 26) = false := by simp; omega
  have z4 : ¬ (b.toNat : Int) < 32 := by omega
  have z5 : ((b.toNat : Int) == 127) = false := by simp; omega
  have z6 : (128 : Int) ≤ (b.toNat : Int) := by omega
  clear hz hb
  go_enter Tryd.func15, Tryd.ntmps15
  go_wp2_with fail
  refine CG.out.mono ?_
  rintro e w1 ⟨A1, n1, c1, rfl, hO⟩
  have F1 := Lib.hid (F.out.below hO.low)
  have HO := Lib.hid hO
  clear hO CG
  have y0 := F1.out.2.1.z 0
  have y1 := F1.out.2.1.z 1
  have y2 := F1.out.2.1.z 2
  have x0 := F1.out.2.1.c0
  have x1 := F1.out.2.1.c1
  have x2 := F1.out.2.1.c2
  go_wp2
  refine bodyPost_ret (res_two rfl _ _ _ _ rfl (F1.out.fill _)) rfl ⟨_, _, _, rfl, ?_⟩
  exact OutE.fill F.out HO.out _ _ _

end Go.Proofs.YtihfjkjbeeoanaaDoor
