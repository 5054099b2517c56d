/-
  What within of the document's own answers returns in an escape sequence.
-/
import Derived.Test.YtihfjkjbeeoanaaDoorRefWithin
namespace Go.Proofs.YtihfjkjbeeoanaaDoor
open Go.RowKit

set_option maxHeartbeats 4000000 in
set_option maxRecDepth 100000 in
theorem refwithin_esc (pe bu : List UInt8) (b : UInt8) (w : World) (h1 : Vt.isCtl b = false) (hh : b.toNat < 128) (hl : bu.length ≤ 1000) :
    Calls Tryd.prog 15 #[.agg #[.int .i64 1, .string (ba pe), .string (ba bu)], .int .u8 (b.toNat : Int)] w (Gone w (Vt.esc ⟨1, pe, bu⟩ b).1 (Vt.esc ⟨1, pe, bu⟩ b).2) := by
  obtain ⟨R, hR⟩ : ∃ R, Vt.esc ⟨1, pe, bu⟩ b = R := ⟨_, rfl⟩
  rw [hR]
  unfold Vt.esc at hR
  rw [if_neg (by rw [h1]; decide)] at hR
  have hbb : 32 ≤ b.toNat ∧ b.toNat ≠ 127 := by
    unfold Vt.isCtl at h1
    simp only [Bool.or_eq_false_iff, decide_eq_false_iff_not] at h1
    omega
  have c1 : ((b.toNat : Int) == 27) = false := by simp; omega
  have c2 : ((b.toNat : Int) == 24) = false := by simp; omega
  have c3 : ((b.toNat : Int) == 26) = false := by simp; omega
  have c4 : ¬ (b.toNat : Int) < 32 := by omega
  have c5 : ((b.toNat : Int) == 127) = false := by simp; omega
  have c6 : ¬ (128 : Int) ≤ (b.toNat : Int) := by omega
  have hbs : (ba bu).size = bu.length := ba_size bu
  simp only at hR
  clear h1 hbb hh
  by_cases h2 : b.toNat ≤ 47
  · rw [if_pos h2] at hR
    subst hR
    have h2z : (b.toNat : Int) < 48 := by omega
    unfold Vt.keep
    simp only
    by_cases h9 : bu.length < 3
    · rw [if_pos h9]
      have hz : ((ba bu).size : Int) < 3 := by omega
      have hsum : ¬ 9223372036854775807 < (ba bu).size + (ba [b]).size := by rw [hbs, ba_size]; simp; omega
      have hcv := u8_string (begun w ⟨1, pe, bu⟩ Vt.zero) (w.heap.size + 1 + 1) (by rw [begun_size]) b
      have e : begun w ⟨1, pe, bu⟩ Vt.zero = (w.alloc (.cells #[.int .i64 1, .string (ba pe), .string (ba bu)] 23)).alloc (.cells #[.int .i64 0, .string ⟨#[]⟩, .string ⟨#[]⟩] 23) := rfl
      rw [e] at hcv
      obtain ⟨x, hx⟩ : ∃ x, ba [b] = x := ⟨_, rfl⟩
      rw [hx] at hcv hsum
      have HX := Lib.hid hx
      clear hbs e hx h2 h9
      go_enter Tryd.func15, Tryd.ntmps15
      go_wp2
      have hq : ba bu ++ x = ba (bu ++ [b]) := by rw [← HX.out]; exact ba_app bu [b]
      rw [hq]
      refine bodyPost_ret (res_two rfl _ _ _ ⟨1, pe, bu ++ [b]⟩ rfl (begun_one_res w ⟨1, pe, bu ++ [b]⟩ ⟨1, pe, bu ++ [b]⟩ _)) rfl ⟨_, _, _, rfl, ?_⟩
      exact (begun_none w ⟨1, pe, bu ++ [b]⟩ ⟨1, pe, bu ++ [b]⟩).alloc _
    · rw [if_neg h9]
      have hz : ¬ ((ba bu).size : Int) < 3 := by omega
      clear hbs h2 h9
      go_enter Tryd.func15, Tryd.ntmps15
      go_wp2
      refine bodyPost_ret (res_two rfl _ _ _ ⟨1, pe, bu⟩ rfl (begun_res w ⟨1, pe, bu⟩ ⟨1, pe, bu⟩)) rfl ⟨_, _, _, rfl, ?_⟩
      exact begun_none w ⟨1, pe, bu⟩ ⟨1, pe, bu⟩
  · rw [if_neg h2] at hR
    have h2z : ¬ (b.toNat : Int) < 48 := by omega
    by_cases h3 : bu = []
    · have hem : (ba bu).toList.isEmpty = true := by rw [Lib.toList_data, ba_list, h3]; rfl
      by_cases h4 : b.toNat = 91
      · rw [if_pos ⟨h3, h4⟩] at hR
        subst hR
        have h4z : ((b.toNat : Int) == 91) = true := by rw [h4]; rfl
        clear h3 hbs h4 h2
        go_enter Tryd.func15, Tryd.ntmps15
        go_wp2
        refine bodyPost_ret (res_two rfl _ _ _ ⟨2, [], []⟩ rfl (begun_res w ⟨1, pe, bu⟩ ⟨2, [], []⟩)) rfl ⟨_, _, _, rfl, ?_⟩
        exact begun_none w ⟨1, pe, bu⟩ ⟨2, [], []⟩
      · rw [if_neg (fun h => h4 h.2)] at hR
        have h4z : ((b.toNat : Int) == 91) = false := by simp; omega
        by_cases h5 : b.toNat = 93
        · rw [if_pos ⟨h3, h5⟩] at hR
          subst hR
          have h5z : ((b.toNat : Int) == 93) = true := by rw [h5]; rfl
          clear h3 hbs h4 h5 h2
          go_enter Tryd.func15, Tryd.ntmps15
          go_wp2
          refine bodyPost_ret (res_two rfl _ _ _ ⟨3, [], []⟩ rfl (begun_res w ⟨1, pe, bu⟩ ⟨3, [], []⟩)) rfl ⟨_, _, _, rfl, ?_⟩
          exact begun_none w ⟨1, pe, bu⟩ ⟨3, [], []⟩
        · rw [if_neg (fun h => h5 h.2), if_neg (by rw [h3]; simp)] at hR
          subst hR
          have h5z : ((b.toNat : Int) == 93) = false := by simp; omega
          have h6z : ¬ (2 : Int) < ((ba bu).size : Int) := by rw [hbs, h3]; simp
          clear h3 hbs
          go_enter Tryd.func15, Tryd.ntmps15
          go_wp2
          go_region
          all_goals
            go_wp2
            refine bodyPost_ret (res_two rfl _ _ _ Vt.zero rfl (begun_one_res w ⟨1, pe, bu⟩ Vt.zero _).drew) rfl ⟨_, _, _, rfl, ?_⟩
            exact (begun_one w ⟨1, pe, bu⟩ Vt.zero ⟨3, 0, b, 0, bu, [], []⟩ rfl _ rfl).drew
    · have hem : (ba bu).toList.isEmpty = false := by
        rw [Lib.toList_data, ba_list]
        cases bu with
        | nil => exact absurd rfl h3
        | cons _ _ => rfl
      rw [if_neg (fun h => h3 h.1), if_neg (fun h => h3 h.1)] at hR
      by_cases h6 : 2 < bu.length
      · rw [if_pos h6] at hR
        subst hR
        have h6z : (2 : Int) < ((ba bu).size : Int) := by omega
        clear h3 hbs
        go_enter Tryd.func15, Tryd.ntmps15
        go_wp2
        refine bodyPost_ret (res_two rfl _ _ _ Vt.zero rfl (begun_res w ⟨1, pe, bu⟩ Vt.zero)) rfl ⟨_, _, _, rfl, ?_⟩
        exact begun_none w ⟨1, pe, bu⟩ Vt.zero
      · rw [if_neg h6] at hR
        subst hR
        have h6z : ¬ (2 : Int) < ((ba bu).size : Int) := by omega
        clear h3 hbs
        go_enter Tryd.func15, Tryd.ntmps15
        go_wp2
        go_region
        all_goals
          go_wp2
          refine bodyPost_ret (res_two rfl _ _ _ Vt.zero rfl (begun_one_res w ⟨1, pe, bu⟩ Vt.zero _).drew) rfl ⟨_, _, _, rfl, ?_⟩
          exact (begun_one w ⟨1, pe, bu⟩ Vt.zero ⟨3, 0, b, 0, bu, [], []⟩ rfl _ rfl).drew


end Go.Proofs.YtihfjkjbeeoanaaDoor
