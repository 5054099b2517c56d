/-
  What read of vtparse returns.
-/
import Derived.Test.YtihfjkjbeeoanaaDoorRead4
import Derived.WalkMore
namespace Go.Proofs.YtihfjkjbeeoanaaDoor
open Go.RowKit

theorem Vt.rd_zero {b : UInt8} : Vt.rd Vt.zero b = Vt.ground [] b := rfl
theorem Vt.rd_4 {p : Vt.P} (h : p.st = 4) (b : UInt8) : Vt.rd p b = if b.toNat = 92 then Vt.done p else if 128 ≤ b.toNat then Vt.ground [] b else Vt.esc Vt.inEsc b := by unfold Vt.rd; rw [if_pos h]
theorem Vt.rd_1 {p : Vt.P} (h : p.st = 1) (b : UInt8) : Vt.rd p b = if 128 ≤ b.toNat then Vt.ground [] b else Vt.esc p b := by unfold Vt.rd; rw [if_neg (by omega), if_pos h]
theorem Vt.rd_2 {p : Vt.P} (h : p.st = 2) (b : UInt8) : Vt.rd p b = if 128 ≤ b.toNat then Vt.ground [] b else Vt.sq p b := by unfold Vt.rd; rw [if_neg (by omega), if_neg (by omega), if_pos h]
theorem Vt.rd_3 {p : Vt.P} (h : p.st = 3) (b : UInt8) : Vt.rd p b = Vt.cmd p b := by unfold Vt.rd; rw [if_neg (by omega), if_neg (by omega), if_neg (by omega), if_pos h]
theorem Vt.rd_0 {p : Vt.P} (h4 : p.st ≠ 4) (h1 : p.st ≠ 1) (h2 : p.st ≠ 2) (h3 : p.st ≠ 3) (b : UInt8) : Vt.rd p b = Vt.ground p.pe b := by unfold Vt.rd; rw [if_neg h4, if_neg h1, if_neg h2, if_neg h3]
theorem Bg.turn {w W : World} {p : Vt.P} (h : Bg w W p) (q : Vt.P) : Bg w (((W.setCell ⟨w.heap.size, 0, none⟩ (.int .i64 q.st)).setCell ⟨w.heap.size, 1, none⟩ (.string (ba q.pe))).setCell ⟨w.heap.size, 2, none⟩ (.string (ba q.bu))) q :=
  ⟨h.1.all q, ((h.2.1.other (by omega) _).other (by omega) _).other (by omega) _, below_fill (Nat.le_refl _) h.2.2 _ _ _⟩
theorem proper_small {p : Vt.P} (h : Vt.proper p = true) : p.pe.length ≤ 900 ∧ p.bu.length ≤ 1000 := by
  rcases Vt.proper_st h with h0 | h0 | h0 | h0 | h0
  · have := Vt.proper_pending h h0
    rw [this.2]
    have := U8.opened_length this.1
    exact ⟨by omega, by simp⟩
  · rw [Vt.proper_1 h0] at h
    simp only [Bool.and_eq_true, decide_eq_true_eq, List.isEmpty_iff] at h
    exact ⟨by rw [h.1]; simp, by omega⟩
  · rw [Vt.proper_2 h0] at h
    simp only [Bool.and_eq_true, decide_eq_true_eq, List.isEmpty_iff] at h
    exact ⟨by rw [h.1]; simp, by omega⟩
  · rw [Vt.proper_34 (.inl h0)] at h
    simp only [Bool.and_eq_true, decide_eq_true_eq, List.isEmpty_iff] at h
    exact ⟨by rw [h.1]; simp, by omega⟩
  · rw [Vt.proper_34 (.inr h0)] at h
    simp only [Bool.and_eq_true, decide_eq_true_eq, List.isEmpty_iff] at h
    exact ⟨by rw [h.1]; simp, by omega⟩

set_option maxHeartbeats 4000000 in
set_option maxRecDepth 100000 in
theorem read_any (p : Vt.P) (b : UInt8) (w : World) (hp : Vt.proper p = true) (hT : Lib.Utf8Tabs 0 1 w) :
    Calls Tryd.prog 12 #[.agg #[.int .i64 p.st, .string (ba p.pe), .string (ba p.bu)], .int .u8 (b.toNat : Int)] w (Gone w (Vt.rd p b).1 (Vt.rd p b).2) := by
  obtain ⟨R, hR⟩ : ∃ R, Vt.rd p b = R := ⟨_, rfl⟩
  rw [hR]
  have HR := Lib.hid hR
  have HP := Lib.hid hp
  clear hR hp
  have F := Lib.hid (Bg.start w p)
  obtain ⟨st, pe, bu⟩ := p
  go_enter Tryd.func12, Tryd.ntmps12
  go_wp2
  go_step3
  go_wp2
  go_step3
  go_wp2
  go_loopg [5] 2 (fun gk v wr => ∃ p' : Vt.P, v = .slice none 0 0 ∧ Aside (Bg w wr p' ∧ Vt.rd p' b = R ∧ Vt.proper p' = true) ∧ 0 < gk ∧ (gk = 2 ∨ p'.st = 0))
  case atStart => exact ⟨⟨st, pe, bu⟩, rfl, ⟨F.out, HR.out, HP.out⟩, by omega, .inl rfl⟩
  case round =>
    clear HR HP F
    obtain ⟨⟨st, pe, bu⟩, rfl, A, hg, hgs⟩ := hrel
    have FB := Lib.hid A.out.1
    have hR := A.out.2.1
    have hsm := proper_small A.out.2.2
    have hT1 := Lib.hid (Utf8Tabs_below hT A.out.1.2.2)
    simp only at hgs hsm
    clear A hT
    have z0 := FB.out.1.c0
    have z1 := FB.out.1.c1
    have z2 := FB.out.1.c2
    have y0 := FB.out.1.z 0
    have y1 := FB.out.1.z 1
    have y2 := FB.out.1.z 2
    by_cases h4 : st = 4
    · subst h4
      have hg2 : gk = 2 := by omega
      rw [Vt.rd_4 rfl] at hR
      by_cases hb : b.toNat = 92
      · rw [if_pos hb] at hR
        have hbz : ((b.toNat : Int) == 92) = true := by rw [hb]; rfl
        subst hR
        clear hb
        go_wp2_with fail
        refine (endCommand_any ⟨4, pe, bu⟩ wr).mono ?_
        rintro e w1 ⟨A1, n1, c1, rfl, hO⟩
        have F1 := Lib.hid (FB.out.below hO.low)
        have HO := Lib.hid hO
        clear hO
        have y0 := F1.out.2.1.z 0
        have y1 := F1.out.2.1.z 1
        have y2 := F1.out.2.1.z 2
        have x0 := F1.out.2.1.c0
        have x1 := F1.out.2.1.c1
        have x2 := F1.out.2.1.c2
        go_wp2
        try rw [Exit.noGoto_ret]
        refine bodyPost_ret (res_two rfl _ _ _ _ rfl (F1.out.fill _)) rfl ⟨_, _, _, rfl, ?_⟩
        exact OutE.fill FB.out HO.out _ _ _
      · rw [if_neg hb] at hR
        have hbz : ((b.toNat : Int) == 92) = false := by simp; omega
        by_cases h8 : 128 ≤ b.toNat
        · rw [if_pos h8] at hR
          have HR := Lib.hid hR
          have h8z : (128 : Int) ≤ (b.toNat : Int) := by omega
          clear hb hR
          go_wp2
          go_roundg 1
          case measure => omega
          case rel => exact ⟨Vt.zero, rfl, ⟨(FB.out.turn Vt.inEsc).turn Vt.zero, by rw [← HR.out]; exact Vt.rd_zero, Vt.proper_zero⟩, by omega, .inr rfl⟩
        · rw [if_neg h8] at hR
          subst hR
          have h8z : ¬ (128 : Int) ≤ (b.toNat : Int) := by omega
          clear hb
          have FB := Lib.hid (FB.out.turn Vt.inEsc)
          have CE := Lib.hid (fun W => readInEscape_any Vt.inEsc b W (by decide))
          go_wp2_with fail
          refine (CE.out _).mono ?_
          rintro e w1 ⟨A1, n1, c1, rfl, hO⟩
          have F1 := Lib.hid (FB.out.below hO.low)
          have HO := Lib.hid hO
          clear hO
          have y0 := F1.out.2.1.z 0
          have y1 := F1.out.2.1.z 1
          have y2 := F1.out.2.1.z 2
          have x0 := F1.out.2.1.c0
          have x1 := F1.out.2.1.c1
          have x2 := F1.out.2.1.c2
          go_wp2
          try rw [Exit.noGoto_ret]
          refine bodyPost_ret (res_two rfl _ _ _ _ rfl (F1.out.fill _)) rfl ⟨_, _, _, rfl, ?_⟩
          exact OutE.fill FB.out HO.out _ _ _
    · have h4z : (st == 4) = false := by simpa using h4
      by_cases h1 : st = 1
      · subst h1
        have hg2 : gk = 2 := by omega
        rw [Vt.rd_1 rfl] at hR
        by_cases h8 : 128 ≤ b.toNat
        · rw [if_pos h8] at hR
          have HR := Lib.hid hR
          have h8z : (128 : Int) ≤ (b.toNat : Int) := by omega
          clear hR
          go_wp2
          go_roundg 1
          case measure => omega
          case rel => exact ⟨Vt.zero, rfl, ⟨FB.out.turn Vt.zero, by rw [← HR.out]; exact Vt.rd_zero, Vt.proper_zero⟩, by omega, .inr rfl⟩
        · rw [if_neg h8] at hR
          subst hR
          have h8z : ¬ (128 : Int) ≤ (b.toNat : Int) := by omega
          go_wp2_with fail
          refine (readInEscape_any ⟨1, pe, bu⟩ b wr hsm.2).mono ?_
          rintro e w1 ⟨A1, n1, c1, rfl, hO⟩
          have F1 := Lib.hid (FB.out.below hO.low)
          have HO := Lib.hid hO
          clear hO
          have y0 := F1.out.2.1.z 0
          have y1 := F1.out.2.1.z 1
          have y2 := F1.out.2.1.z 2
          have x0 := F1.out.2.1.c0
          have x1 := F1.out.2.1.c1
          have x2 := F1.out.2.1.c2
          go_wp2
          try rw [Exit.noGoto_ret]
          refine bodyPost_ret (res_two rfl _ _ _ _ rfl (F1.out.fill _)) rfl ⟨_, _, _, rfl, ?_⟩
          exact OutE.fill FB.out HO.out _ _ _
      · have h1z : (st == 1) = false := by simpa using h1
        by_cases h2 : st = 2
        · subst h2
          have hg2 : gk = 2 := by omega
          rw [Vt.rd_2 rfl] at hR
          by_cases h8 : 128 ≤ b.toNat
          · rw [if_pos h8] at hR
            have HR := Lib.hid hR
            have h8z : (128 : Int) ≤ (b.toNat : Int) := by omega
            clear hR
            go_wp2
            go_roundg 1
            case measure => omega
            case rel => exact ⟨Vt.zero, rfl, ⟨FB.out.turn Vt.zero, by rw [← HR.out]; exact Vt.rd_zero, Vt.proper_zero⟩, by omega, .inr rfl⟩
          · rw [if_neg h8] at hR
            subst hR
            have h8z : ¬ (128 : Int) ≤ (b.toNat : Int) := by omega
            go_wp2_with fail
            refine (readInSequence_any ⟨2, pe, bu⟩ b wr hsm.2).mono ?_
            rintro e w1 ⟨A1, n1, c1, rfl, hO⟩
            have F1 := Lib.hid (FB.out.below hO.low)
            have HO := Lib.hid hO
            clear hO
            have y0 := F1.out.2.1.z 0
            have y1 := F1.out.2.1.z 1
            have y2 := F1.out.2.1.z 2
            have x0 := F1.out.2.1.c0
            have x1 := F1.out.2.1.c1
            have x2 := F1.out.2.1.c2
            go_wp2
            try rw [Exit.noGoto_ret]
            refine bodyPost_ret (res_two rfl _ _ _ _ rfl (F1.out.fill _)) rfl ⟨_, _, _, rfl, ?_⟩
            exact OutE.fill FB.out HO.out _ _ _
        · have h2z : (st == 2) = false := by simpa using h2
          by_cases h3 : st = 3
          · subst h3
            rw [Vt.rd_3 rfl] at hR
            subst hR
            go_wp2_with fail
            refine (readInCommand_any ⟨3, pe, bu⟩ b wr).mono ?_
            rintro e w1 ⟨A1, n1, c1, rfl, hO⟩
            have F1 := Lib.hid (FB.out.below hO.low)
            have HO := Lib.hid hO
            clear hO
            have y0 := F1.out.2.1.z 0
            have y1 := F1.out.2.1.z 1
            have y2 := F1.out.2.1.z 2
            have x0 := F1.out.2.1.c0
            have x1 := F1.out.2.1.c1
            have x2 := F1.out.2.1.c2
            go_wp2
            try rw [Exit.noGoto_ret]
            refine bodyPost_ret (res_two rfl _ _ _ _ rfl (F1.out.fill _)) rfl ⟨_, _, _, rfl, ?_⟩
            exact OutE.fill FB.out HO.out _ _ _
          · have h3z : (st == 3) = false := by simpa using h3
            rw [Vt.rd_0 h4 h1 h2 h3] at hR
            subst hR
            clear hgs
            go_wp2_with fail
            refine (readInGround_any ⟨st, pe, bu⟩ b wr hsm.1 hT1.out).mono ?_
            rintro e w1 ⟨A1, n1, c1, rfl, hO⟩
            have F1 := Lib.hid (FB.out.below hO.low)
            have HO := Lib.hid hO
            clear hO
            have y0 := F1.out.2.1.z 0
            have y1 := F1.out.2.1.z 1
            have y2 := F1.out.2.1.z 2
            have x0 := F1.out.2.1.c0
            have x1 := F1.out.2.1.c1
            have x2 := F1.out.2.1.c2
            go_wp2
            try rw [Exit.noGoto_ret]
            refine bodyPost_ret (res_two rfl _ _ _ _ rfl (F1.out.fill _)) rfl ⟨_, _, _, rfl, ?_⟩
            exact OutE.fill FB.out HO.out _ _ _

end Go.Proofs.YtihfjkjbeeoanaaDoor
