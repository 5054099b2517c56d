/-
  What within of the document's own answers returns in a control sequence.
-/
import Derived.Test.YtihfjkjbeeoanaaDoorRefWithin
import Derived.Test.YtihfjkjbeeoanaaDoorRefParseWalk
namespace Go.Proofs.YtihfjkjbeeoanaaDoor
open Go.RowKit

set_option maxHeartbeats 4000000 in
set_option maxRecDepth 100000 in
theorem refwithin_sq (pe bu : List UInt8) (b : UInt8) (w : World) (h1 : Vt.isCtl b = false) (hh : b.toNat < 128) (hl : bu.length ≤ 400) :
    Calls Tryd.prog 15 #[.agg #[.int .i64 2, .string (ba pe), .string (ba bu)], .int .u8 (b.toNat : Int)] w (Gone w (Vt.sq ⟨2, pe, bu⟩ b).1 (Vt.sq ⟨2, pe, bu⟩ b).2) := by
  obtain ⟨R, hR⟩ : ∃ R, Vt.sq ⟨2, pe, bu⟩ b = R := ⟨_, rfl⟩
  rw [hR]
  unfold Vt.sq at hR
  rw [if_neg (by rw [h1]; decide)] at hR
  have hbb : 32 ≤ b.toNat ∧ b.toNat ≠ 127 := by
    unfold Vt.isCtl at h1
    simp only [Bool.or_eq_false_iff, decide_eq_false_iff_not] at h1
    omega
  have c1 : ((b.toNat : Int) == 27) = false := by simp; omega
  have c2 : ((b.toNat : Int) == 24) = false := by simp; omega
  have c3 : ((b.toNat : Int) == 26) = false := by simp; omega
  have c4 : ¬ (b.toNat : Int) < 32 := by omega
  have c5 : ((b.toNat : Int) == 127) = false := by simp; omega
  have c6 : ¬ (128 : Int) ≤ (b.toNat : Int) := by omega
  have hbs : (ba bu).size = bu.length := ba_size bu
  have F := Lib.hid (Bg.start w ⟨2, pe, bu⟩)
  simp only at hR
  clear h1 hbb hh
  by_cases h2 : b.toNat ≤ 63
  · rw [if_pos h2] at hR
    subst hR
    have h2z : (b.toNat : Int) < 64 := by omega
    unfold Vt.keep
    simp only
    by_cases h9 : bu.length < 257
    · rw [if_pos h9]
      have hz : ((ba bu).size : Int) < 257 := by omega
      have hsum : ¬ 9223372036854775807 < (ba bu).size + (ba [b]).size := by rw [hbs, ba_size]; simp; omega
      have hcv := u8_string (begun w ⟨2, pe, bu⟩ Vt.zero) (w.heap.size + 1 + 1) (by rw [begun_size]) b
      have e : begun w ⟨2, pe, bu⟩ Vt.zero = (w.alloc (.cells #[.int .i64 2, .string (ba pe), .string (ba bu)] 23)).alloc (.cells #[.int .i64 0, .string ⟨#[]⟩, .string ⟨#[]⟩] 23) := rfl
      rw [e] at hcv
      obtain ⟨x, hx⟩ : ∃ x, ba [b] = x := ⟨_, rfl⟩
      rw [hx] at hcv hsum
      have HX := Lib.hid hx
      clear hbs e hx h2 h9
      go_enter Tryd.func15, Tryd.ntmps15
      go_wp2
      have hq : ba bu ++ x = ba (bu ++ [b]) := by rw [← HX.out]; exact ba_app bu [b]
      rw [hq]
      refine bodyPost_ret (res_two rfl _ _ _ ⟨2, pe, bu ++ [b]⟩ rfl (begun_one_res w ⟨2, pe, bu ++ [b]⟩ ⟨2, pe, bu ++ [b]⟩ _)) rfl ⟨_, _, _, rfl, ?_⟩
      exact (begun_none w ⟨2, pe, bu ++ [b]⟩ ⟨2, pe, bu ++ [b]⟩).alloc _
    · rw [if_neg h9]
      have hz : ¬ ((ba bu).size : Int) < 257 := by omega
      clear hbs h2 h9
      go_enter Tryd.func15, Tryd.ntmps15
      go_wp2
      refine bodyPost_ret (res_two rfl _ _ _ ⟨2, pe, bu⟩ rfl (begun_res w ⟨2, pe, bu⟩ ⟨2, pe, bu⟩)) rfl ⟨_, _, _, rfl, ?_⟩
      exact begun_none w ⟨2, pe, bu⟩ ⟨2, pe, bu⟩
  · rw [if_neg h2] at hR
    have h2z : ¬ (b.toNat : Int) < 64 := by omega
    by_cases h6 : 256 < bu.length
    · rw [if_pos h6] at hR
      subst hR
      have h6z : (256 : Int) < ((ba bu).size : Int) := by omega
      obtain ⟨m, ps, i, er, hp⟩ : ∃ m ps i er, Cp.parse bu = (m, ps, i, er) := ⟨_, _, _, _, rfl⟩
      have CP := Lib.hid (Ci.refparse_any (ba bu) (begun w ⟨2, pe, bu⟩ Vt.zero) (by omega) (p := m) (ps := ps) (i := i) (er := er) (by rw [ba_list]; exact hp))
      clear hbs hp
      go_enter Tryd.func15, Tryd.ntmps15
      go_wp2_with fail
      refine CP.out.mono ?_
      rintro e w1 ⟨A1, n1, c1, t, rfl, ht, g1⟩
      have F1 := Lib.hid (F.out.below g1.2.2)
      clear g1 CP ht
      have y0 := F1.out.2.1.z 0
      have y1 := F1.out.2.1.z 1
      have y2 := F1.out.2.1.z 2
      have x0 := F1.out.2.1.c0
      have x1 := F1.out.2.1.c1
      have x2 := F1.out.2.1.c2
      have a2 := F1.out.1.c2
      by_cases h7 : er = 0
      · subst h7
        go_wp2
        refine bodyPost_ret (res_two rfl _ _ _ Vt.zero rfl (F1.out.fill Vt.zero)) rfl ⟨_, _, _, rfl, ?_⟩
        exact no_events (below_fill (by omega) F1.out.2.2 _ _ _)
      · have h7z : (er != 0) = true := by simpa using h7
        clear h7
        go_wp2
        refine bodyPost_ret (res_two rfl _ _ _ Vt.zero rfl (F1.out.fill Vt.zero)) rfl ⟨_, _, _, rfl, ?_⟩
        exact no_events (below_fill (by omega) F1.out.2.2 _ _ _)
    · rw [if_neg h6] at hR
      subst hR
      have h6z : ¬ (256 : Int) < ((ba bu).size : Int) := by omega
      unfold Vt.sqev
      obtain ⟨m, ps, i, er, hp⟩ : ∃ m ps i er, Cp.parse bu = (m, ps, i, er) := ⟨_, _, _, _, rfl⟩
      have CP := Lib.hid (Ci.refparse_any (ba bu) (begun w ⟨2, pe, bu⟩ Vt.zero) (by omega) (p := m) (ps := ps) (i := i) (er := er) (by rw [ba_list]; exact hp))
      simp only [hp]
      clear hbs hp
      by_cases h7 : er = 0
      · subst h7
        go_enter Tryd.func15, Tryd.ntmps15
        go_wp2_with fail
        refine CP.out.mono ?_
        rintro e w1 ⟨A1, n1, c1, t, rfl, ht, g1⟩
        obtain rfl : t = ba i := by rw [← ht, ba_of]
        have F1 := Lib.hid (F.out.below g1.2.2)
        have HG := Lib.hid g1
        have hk := F1.out.2.1.lt
        clear g1 CP ht
        have y0 := F1.out.2.1.z 0
        have y1 := F1.out.2.1.z 1
        have y2 := F1.out.2.1.z 2
        have x0 := F1.out.2.1.c0
        have x1 := F1.out.2.1.c1
        have x2 := F1.out.2.1.c2
        have a2 := F1.out.1.c2
        go_wp2
        have hp : Par (((w1.setCell ⟨w.heap.size + 1, 0, none⟩ (.int .i64 0)).setCell ⟨w.heap.size + 1, 1, none⟩ (.string ⟨#[]⟩)).setCell ⟨w.heap.size + 1, 2, none⟩ (.string ⟨#[]⟩)) w.heap.size none ⟨⟨4, 0, b, m, i, ps, []⟩, A1, n1, c1⟩ := par_set HG.out F.out.2.1.lt F.out.2.2.size _ _ _
        have h := OutE.one w _ _ (below_fill (by omega) F1.out.2.2 (.int .i64 0) (.string ⟨#[]⟩) (.string ⟨#[]⟩)) hp _ rfl
        simp only [World.size_setCell] at h
        refine bodyPost_ret (res_two rfl _ _ _ Vt.zero rfl ((F1.out.fill Vt.zero).alloc _)) rfl ⟨_, _, _, rfl, h⟩
      · have h7z : (er != 0) = true := by simpa using h7
        rw [if_neg h7]
        clear h7
        go_enter Tryd.func15, Tryd.ntmps15
        go_wp2_with fail
        refine CP.out.mono ?_
        rintro e w1 ⟨A1, n1, c1, t, rfl, ht, g1⟩
        have F1 := Lib.hid (F.out.below g1.2.2)
        clear g1 CP ht
        have y0 := F1.out.2.1.z 0
        have y1 := F1.out.2.1.z 1
        have y2 := F1.out.2.1.z 2
        have x0 := F1.out.2.1.c0
        have x1 := F1.out.2.1.c1
        have x2 := F1.out.2.1.c2
        have a2 := F1.out.1.c2
        go_wp2
        refine bodyPost_ret (res_two rfl _ _ _ Vt.zero rfl (F1.out.fill Vt.zero)) rfl ⟨_, _, _, rfl, ?_⟩
        exact no_events (below_fill (by omega) F1.out.2.2 _ _ _)

end Go.Proofs.YtihfjkjbeeoanaaDoor
