/-
  What readInCommand and readInSequence of vtparse return.
-/
import Derived.Test.YtihfjkjbeeoanaaDoorRead2
import Derived.Test.YtihfjkjbeeoanaaDoorParse
namespace Go.Proofs.YtihfjkjbeeoanaaDoor
open Go.RowKit

theorem par_set {w W w1 : World} {g : G} {k : Nat} (h : Ci.Gives W w1 g.A g.n g.c g.e.ps) (hk : k < W.heap.size) (hw : w.heap.size ≤ W.heap.size) (a b c : Value) :
    Par (((w1.setCell ⟨k, 0, none⟩ a).setCell ⟨k, 1, none⟩ b).setCell ⟨k, 2, none⟩ c) w.heap.size none g := by
  refine ⟨h.1.1, fun j hj => ?_⟩
  obtain ⟨x, off, e, hlt, hc⟩ := h.1.2 j hj
  have hlo := h.2.1.2 x off e
  refine ⟨x, off, e, by omega, by simpa using hlt, (fun e => by cases e), ?_⟩
  have hh : (((w1.setCell ⟨k, 0, none⟩ a).setCell ⟨k, 1, none⟩ b).setCell ⟨k, 2, none⟩ c).heap[x]? = w1.heap[x]? := by
    rw [World.set_heap _ _ _ _ _ (by omega), World.set_heap _ _ _ _ _ (by omega), World.set_heap _ _ _ _ _ (by omega)]
  unfold World.cell? at hc ⊢
  simp only [hh]
  exact hc

set_option maxHeartbeats 2000000 in
set_option maxRecDepth 100000 in
theorem readInCommand_any (p : Vt.P) (b : UInt8) (w : World) :
    Calls Tryd.prog 24 #[.agg #[.int .i64 p.st, .string (ba p.pe), .string (ba p.bu)], .int .u8 (b.toNat : Int)] w (Gone w (Vt.cmd p b).1 (Vt.cmd p b).2) := by
  obtain ⟨R, hR⟩ : ∃ R, Vt.cmd p b = R := ⟨_, rfl⟩
  rw [hR]
  unfold Vt.cmd at hR
  obtain ⟨st, pe, bu⟩ := p
  have F := Lib.hid (Bg.start w ⟨st, pe, bu⟩)
  by_cases h1 : b.toNat = 7
  · rw [if_pos h1] at hR
    subst hR
    have h1z : ((b.toNat : Int) == 7) = true := by rw [h1]; rfl
    have CR := Lib.hid (endCommand_any ⟨st, pe, bu⟩ (begun w ⟨st, pe, bu⟩ Vt.zero))
    clear h1
    go_enter Tryd.func24, Tryd.ntmps24
    go_wp2_with fail
    refine CR.out.mono ?_
    rintro e w1 ⟨A1, n1, c1, rfl, hO⟩
    have F1 := Lib.hid (F.out.below hO.low)
    have HO := Lib.hid hO
    clear hO CR
    have y0 := F1.out.2.1.z 0
    have y1 := F1.out.2.1.z 1
    have y2 := F1.out.2.1.z 2
    have x0 := F1.out.2.1.c0
    have x1 := F1.out.2.1.c1
    have x2 := F1.out.2.1.c2
    go_wp2
    refine bodyPost_ret (res_two rfl _ _ _ _ rfl (F1.out.fill _)) rfl ⟨_, _, _, rfl, ?_⟩
    exact OutE.fill F.out HO.out _ _ _
  · rw [if_neg h1] at hR
    have h1z : ((b.toNat : Int) == 7) = false := by simp; omega
    by_cases h2 : b.toNat = 27
    · rw [if_pos h2] at hR
      subst hR
      have h2z : ((b.toNat : Int) == 27) = true := by rw [h2]; rfl
      clear h1 h2
      go_enter Tryd.func24, Tryd.ntmps24
      go_wp2
      refine bodyPost_ret (res_two rfl _ _ _ ⟨4, [], bu⟩ rfl (begun_res w ⟨st, pe, bu⟩ ⟨4, [], bu⟩)) rfl ⟨_, _, _, rfl, ?_⟩
      exact begun_none w ⟨st, pe, bu⟩ ⟨4, [], bu⟩
    · rw [if_neg h2] at hR
      have h2z : ((b.toNat : Int) == 27) = false := by simp; omega
      by_cases h3 : b.toNat = 24
      · rw [if_pos (.inl h3)] at hR
        subst hR
        have h3z : ((b.toNat : Int) == 24) = true := by rw [h3]; rfl
        clear h1 h2 h3
        go_enter Tryd.func24, Tryd.ntmps24
        go_wp2
        refine bodyPost_ret (res_two rfl _ _ _ Vt.zero rfl (begun_res w ⟨st, pe, bu⟩ Vt.zero)) rfl ⟨_, _, _, rfl, ?_⟩
        exact begun_none w ⟨st, pe, bu⟩ Vt.zero
      · have h3z : ((b.toNat : Int) == 24) = false := by simp; omega
        by_cases h4 : b.toNat = 26
        · rw [if_pos (.inr h4)] at hR
          subst hR
          have h4z : ((b.toNat : Int) == 26) = true := by rw [h4]; rfl
          clear h1 h2 h3 h4
          go_enter Tryd.func24, Tryd.ntmps24
          go_wp2
          refine bodyPost_ret (res_two rfl _ _ _ Vt.zero rfl (begun_res w ⟨st, pe, bu⟩ Vt.zero)) rfl ⟨_, _, _, rfl, ?_⟩
          exact begun_none w ⟨st, pe, bu⟩ Vt.zero
        · rw [if_neg (by omega)] at hR
          have h4z : ((b.toNat : Int) == 26) = false := by simp; omega
          by_cases h5 : b.toNat < 32
          · rw [if_pos h5] at hR
            subst hR
            have h5z : (b.toNat : Int) < 32 := by omega
            go_enter Tryd.func24, Tryd.ntmps24
            go_wp2
            refine bodyPost_ret (res_two rfl _ _ _ ⟨st, pe, bu⟩ rfl (begun_res w ⟨st, pe, bu⟩ ⟨st, pe, bu⟩)) rfl ⟨_, _, _, rfl, ?_⟩
            exact begun_none w ⟨st, pe, bu⟩ ⟨st, pe, bu⟩
          · rw [if_neg h5] at hR
            subst hR
            have h5z : ¬ (b.toNat : Int) < 32 := by omega
            have CK := Lib.hid (keep_any ⟨st, pe, bu⟩ b 256 (begun w ⟨st, pe, bu⟩ Vt.zero) (by decide))
            generalize Vt.keep ⟨st, pe, bu⟩ b 256 = K at CK
            go_enter Tryd.func24, Tryd.ntmps24
            go_wp2_with fail
            refine CK.out.mono ?_
            rintro e w1 ⟨rfl, b1⟩
            have F1 := Lib.hid (F.out.below b1)
            clear b1 CK
            have y0 := F1.out.2.1.z 0
            have y1 := F1.out.2.1.z 1
            have y2 := F1.out.2.1.z 2
            have x0 := F1.out.2.1.c0
            have x1 := F1.out.2.1.c1
            have x2 := F1.out.2.1.c2
            go_wp2
            refine bodyPost_ret (res_two rfl _ _ _ K rfl (F1.out.fill K)) rfl ⟨_, _, _, rfl, ?_⟩
            exact no_events (below_fill (by omega) F1.out.2.2 _ _ _)

set_option maxHeartbeats 2000000 in
set_option maxRecDepth 100000 in
theorem readInSequence_any (p : Vt.P) (b : UInt8) (w : World) (hl : p.bu.length ≤ 1000) :
    Calls Tryd.prog 23 #[.agg #[.int .i64 p.st, .string (ba p.pe), .string (ba p.bu)], .int .u8 (b.toNat : Int)] w (Gone w (Vt.sq p b).1 (Vt.sq p b).2) := by
  obtain ⟨R, hR⟩ : ∃ R, Vt.sq p b = R := ⟨_, rfl⟩
  rw [hR]
  unfold Vt.sq at hR
  obtain ⟨st, pe, bu⟩ := p
  have cI := fun W => isControl_any b W
  have F := Lib.hid (Bg.start w ⟨st, pe, bu⟩)
  by_cases h1 : Vt.isCtl b = true
  · rw [if_pos h1] at hR
    subst hR
    rw [h1] at cI
    have CI := Lib.hid cI
    have CR := Lib.hid (readControl_any ⟨st, pe, bu⟩ b (begun w ⟨st, pe, bu⟩ Vt.zero))
    clear cI
    go_enter Tryd.func23, Tryd.ntmps23
    go_wp2_with fail
    refine (CI.out _).mono ?_
    rintro e w' ⟨rfl, rfl⟩
    clear CI
    go_wp2_with fail
    refine CR.out.mono ?_
    rintro e w1 ⟨A1, n1, c1, rfl, hO⟩
    have F1 := Lib.hid (F.out.below hO.low)
    have HO := Lib.hid hO
    clear hO CR
    have y0 := F1.out.2.1.z 0
    have y1 := F1.out.2.1.z 1
    have y2 := F1.out.2.1.z 2
    have x0 := F1.out.2.1.c0
    have x1 := F1.out.2.1.c1
    have x2 := F1.out.2.1.c2
    go_wp2
    refine bodyPost_ret (res_two rfl _ _ _ _ rfl (F1.out.fill _)) rfl ⟨_, _, _, rfl, ?_⟩
    exact OutE.fill F.out HO.out _ _ _
  · rw [if_neg h1] at hR
    rw [Bool.not_eq_true] at h1
    rw [h1] at cI
    have CI := Lib.hid cI
    clear cI
    have hbs : (ba bu).size = bu.length := ba_size bu
    by_cases h2 : b.toNat ≤ 63
    · rw [if_pos h2] at hR
      subst hR
      have h2z : (b.toNat : Int) ≤ 63 := by omega
      have CK := Lib.hid (keep_any ⟨st, pe, bu⟩ b 257 (begun w ⟨st, pe, bu⟩ Vt.zero) (by decide))
      generalize Vt.keep ⟨st, pe, bu⟩ b 257 = K at CK
      go_enter Tryd.func23, Tryd.ntmps23
      go_wp2_with fail
      refine (CI.out _).mono ?_
      rintro e w' ⟨rfl, rfl⟩
      clear CI
      go_wp2_with fail
      refine CK.out.mono ?_
      rintro e w1 ⟨rfl, b1⟩
      have F1 := Lib.hid (F.out.below b1)
      clear b1 CK
      have y0 := F1.out.2.1.z 0
      have y1 := F1.out.2.1.z 1
      have y2 := F1.out.2.1.z 2
      have x0 := F1.out.2.1.c0
      have x1 := F1.out.2.1.c1
      have x2 := F1.out.2.1.c2
      go_wp2
      refine bodyPost_ret (res_two rfl _ _ _ K rfl (F1.out.fill K)) rfl ⟨_, _, _, rfl, ?_⟩
      exact no_events (below_fill (by omega) F1.out.2.2 _ _ _)
    · rw [if_neg h2] at hR
      have h2z : ¬ (b.toNat : Int) ≤ 63 := by omega
      by_cases h6 : 256 < bu.length
      · rw [if_pos h6] at hR
        subst hR
        have h6z : (256 : Int) < ((ba bu).size : Int) := by omega
        clear hbs
        go_enter Tryd.func23, Tryd.ntmps23
        go_wp2_with fail
        refine (CI.out _).mono ?_
        rintro e w' ⟨rfl, rfl⟩
        clear CI
        go_wp2
        refine bodyPost_ret (res_two rfl _ _ _ Vt.zero rfl (begun_res w ⟨st, pe, bu⟩ Vt.zero)) rfl ⟨_, _, _, rfl, ?_⟩
        exact begun_none w ⟨st, pe, bu⟩ Vt.zero
      · rw [if_neg h6] at hR
        subst hR
        have h6z : ¬ (256 : Int) < ((ba bu).size : Int) := by omega
        unfold Vt.sqev
        obtain ⟨m, ps, i, er, hp⟩ : ∃ m ps i er, Cp.parse bu = (m, ps, i, er) := ⟨_, _, _, _, rfl⟩
        have CP := Lib.hid (Ci.parse_any (ba bu) (begun w ⟨st, pe, bu⟩ Vt.zero) (by omega) (p := m) (ps := ps) (i := i) (er := er) (by rw [ba_list]; exact hp))
        simp only [hp]
        clear hbs hp
        by_cases h7 : er = 0
        · subst h7
          go_enter Tryd.func23, Tryd.ntmps23
          go_wp2_with fail
          refine (CI.out _).mono ?_
          rintro e w' ⟨rfl, rfl⟩
          clear CI
          go_wp2_with fail
          refine CP.out.mono ?_
          rintro e w1 ⟨A1, n1, c1, t, rfl, ht, g1⟩
          obtain rfl : t = ba i := by rw [← ht, ba_of]
          have F1 := Lib.hid (F.out.below g1.2.2)
          have HG := Lib.hid g1
          have hk := F1.out.2.1.lt
          clear g1 CP ht
          have y0 := F1.out.2.1.z 0
          have y1 := F1.out.2.1.z 1
          have y2 := F1.out.2.1.z 2
          have x0 := F1.out.2.1.c0
          have x1 := F1.out.2.1.c1
          have x2 := F1.out.2.1.c2
          go_wp2
          have hp : Par (((w1.setCell ⟨w.heap.size + 1, 0, none⟩ (.int .i64 0)).setCell ⟨w.heap.size + 1, 1, none⟩ (.string ⟨#[]⟩)).setCell ⟨w.heap.size + 1, 2, none⟩ (.string ⟨#[]⟩)) w.heap.size none ⟨⟨4, 0, b, m, i, ps, []⟩, A1, n1, c1⟩ := par_set HG.out F.out.2.1.lt F.out.2.2.size _ _ _
          have h := OutE.one w _ _ (below_fill (by omega) F1.out.2.2 (.int .i64 0) (.string ⟨#[]⟩) (.string ⟨#[]⟩)) hp _ rfl
          simp only [World.size_setCell] at h
          refine bodyPost_ret (res_two rfl _ _ _ Vt.zero rfl ((F1.out.fill Vt.zero).alloc _)) rfl ⟨_, _, _, rfl, h⟩
        · have h7z : (er != 0) = true := by simpa using h7
          rw [if_neg h7]
          clear h7
          go_enter Tryd.func23, Tryd.ntmps23
          go_wp2_with fail
          refine (CI.out _).mono ?_
          rintro e w' ⟨rfl, rfl⟩
          clear CI
          go_wp2_with fail
          refine CP.out.mono ?_
          rintro e w1 ⟨A1, n1, c1, t, rfl, ht, g1⟩
          have F1 := Lib.hid (F.out.below g1.2.2)
          clear g1 CP ht
          have y0 := F1.out.2.1.z 0
          have y1 := F1.out.2.1.z 1
          have y2 := F1.out.2.1.z 2
          have x0 := F1.out.2.1.c0
          have x1 := F1.out.2.1.c1
          have x2 := F1.out.2.1.c2
          go_wp2
          refine bodyPost_ret (res_two rfl _ _ _ Vt.zero rfl (F1.out.fill Vt.zero)) rfl ⟨_, _, _, rfl, ?_⟩
          exact no_events (below_fill (by omega) F1.out.2.2 _ _ _)

end Go.Proofs.YtihfjkjbeeoanaaDoor
