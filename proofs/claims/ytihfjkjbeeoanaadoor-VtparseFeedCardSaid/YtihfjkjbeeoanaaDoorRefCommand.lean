/-
  What command of the document's own answers returns.
-/
import Derived.Test.YtihfjkjbeeoanaaDoorRefIn
namespace Go.Proofs.YtihfjkjbeeoanaaDoor
open Go.RowKit

set_option maxHeartbeats 4000000 in
set_option maxRecDepth 100000 in
theorem refcommand_3 (pe bu : List UInt8) (b : UInt8) (w : World) (hpe : pe = []) (hl : bu.length ≤ 400) :
    Calls Tryd.prog 16 #[.agg #[.int .i64 3, .string (ba pe), .string (ba bu)], .int .u8 (b.toNat : Int)] w (Gone w (Vt.cmd ⟨3, pe, bu⟩ b).1 (Vt.cmd ⟨3, pe, bu⟩ b).2) := by
  obtain ⟨R, hR⟩ : ∃ R, Vt.cmd ⟨3, pe, bu⟩ b = R := ⟨_, rfl⟩
  rw [hR]
  unfold Vt.cmd at hR
  have HPE := Lib.hid hpe
  clear hpe
  have hbs : (ba bu).size = bu.length := ba_size bu
  simp only at hR
  by_cases h7 : b.toNat = 7
  · rw [if_pos h7] at hR
    subst hR
    rw [h7]
    clear h7 hbs
    go_enter Tryd.func16, Tryd.ntmps16
    go_wp2
    refine bodyPost_ret (res_two rfl _ _ _ Vt.zero rfl (begun_one_res w ⟨3, pe, bu⟩ Vt.zero _)) rfl ⟨_, _, _, rfl, ?_⟩
    exact begun_one w ⟨3, pe, bu⟩ Vt.zero ⟨5, 0, 0, 0, [], [], bu⟩ rfl _ rfl
  · rw [if_neg h7] at hR
    have z7 : ((b.toNat : Int) == 7) = false := by simp; omega
    by_cases h27 : b.toNat = 27
    · rw [if_pos h27] at hR
      have hR : ((⟨4, pe, bu⟩ : Vt.P), ([] : List Vt.E)) = R := by
        rw [HPE.out]
        exact hR
      subst hR
      clear z7
      rw [h27]
      clear h27 hbs h7
      go_enter Tryd.func16, Tryd.ntmps16
      go_wp2
      refine bodyPost_ret (res_two rfl _ _ _ ⟨4, pe, bu⟩ rfl (begun_one_res w ⟨4, pe, bu⟩ ⟨4, pe, bu⟩ _)) rfl ⟨_, _, _, rfl, ?_⟩
      exact (begun_none w ⟨4, pe, bu⟩ ⟨4, pe, bu⟩).alloc _
    · rw [if_neg h27] at hR
      have z27 : ((b.toNat : Int) == 27) = false := by simp; omega
      by_cases h24 : b.toNat = 24
      · rw [if_pos (.inl h24)] at hR
        subst hR
        clear z7 z27
        rw [h24]
        clear h24 hbs h7 h27
        go_enter Tryd.func16, Tryd.ntmps16
        go_wp2
        refine bodyPost_ret (res_two rfl _ _ _ Vt.zero rfl (begun_one_res w ⟨3, pe, bu⟩ Vt.zero _)) rfl ⟨_, _, _, rfl, ?_⟩
        exact (begun_none w ⟨3, pe, bu⟩ Vt.zero).alloc _
      · have z24 : ((b.toNat : Int) == 24) = false := by simp; omega
        by_cases h26 : b.toNat = 26
        · rw [if_pos (.inr h26)] at hR
          subst hR
          clear z7 z27 z24
          rw [h26]
          clear h26 hbs h7 h27 h24
          go_enter Tryd.func16, Tryd.ntmps16
          go_wp2
          refine bodyPost_ret (res_two rfl _ _ _ Vt.zero rfl (begun_one_res w ⟨3, pe, bu⟩ Vt.zero _)) rfl ⟨_, _, _, rfl, ?_⟩
          exact (begun_none w ⟨3, pe, bu⟩ Vt.zero).alloc _
        · rw [if_neg (by omega)] at hR
          have z26 : ((b.toNat : Int) == 26) = false := by simp; omega
          by_cases h32 : b.toNat < 32
          · rw [if_pos h32] at hR
            subst hR
            have z32 : ¬ (32 : Int) ≤ (b.toNat : Int) := by omega
            clear hbs h7 h27 h24 h26 h32
            go_enter Tryd.func16, Tryd.ntmps16
            go_wp2
            refine bodyPost_ret (res_two rfl _ _ _ ⟨3, pe, bu⟩ rfl (begun_one_res w ⟨3, pe, bu⟩ ⟨3, pe, bu⟩ _)) rfl ⟨_, _, _, rfl, ?_⟩
            exact (begun_none w ⟨3, pe, bu⟩ ⟨3, pe, bu⟩).alloc _
          · rw [if_neg h32] at hR
            subst hR
            have z32 : (32 : Int) ≤ (b.toNat : Int) := by omega
            unfold Vt.keep
            simp only
            by_cases h9 : bu.length < 256
            · rw [if_pos h9]
              have hz : ((ba bu).size : Int) < 256 := by omega
              have hsum : ¬ 9223372036854775807 < (ba bu).size + (ba [b]).size := by rw [hbs, ba_size]; simp; omega
              have hcv := u8_string ((begun w ⟨3, pe, bu⟩ Vt.zero).alloc (.cells #[.int .i64 5, .int .i32 0, .int .u8 0, .int .u8 0, .string ⟨#[]⟩, .slice none 0 0, .string (ba bu)] 33)) (w.heap.size + 1 + 1 + 1) (by rw [World.size_alloc, begun_size]) b
              have e : begun w ⟨3, pe, bu⟩ Vt.zero = (w.alloc (.cells #[.int .i64 3, .string (ba pe), .string (ba bu)] 23)).alloc (.cells #[.int .i64 0, .string ⟨#[]⟩, .string ⟨#[]⟩] 23) := rfl
              rw [e] at hcv
              obtain ⟨x, hx⟩ : ∃ x, ba [b] = x := ⟨_, rfl⟩
              rw [hx] at hcv hsum
              have HX := Lib.hid hx
              clear hbs e hx h7 h27 h24 h26 h32 h9
              go_enter Tryd.func16, Tryd.ntmps16
              go_wp2
              have hq : ba bu ++ x = ba (bu ++ [b]) := by rw [← HX.out]; exact ba_app bu [b]
              rw [hq]
              refine bodyPost_ret (res_two rfl _ _ _ ⟨3, pe, bu ++ [b]⟩ rfl ((begun_one_res w ⟨3, pe, bu ++ [b]⟩ ⟨3, pe, bu ++ [b]⟩ _).alloc _)) rfl ⟨_, _, _, rfl, ?_⟩
              exact ((begun_none w ⟨3, pe, bu ++ [b]⟩ ⟨3, pe, bu ++ [b]⟩).alloc _).alloc _
            · rw [if_neg h9]
              have hz : ¬ ((ba bu).size : Int) < 256 := by omega
              clear hbs h7 h27 h24 h26 h32 h9
              go_enter Tryd.func16, Tryd.ntmps16
              go_wp2
              refine bodyPost_ret (res_two rfl _ _ _ ⟨3, pe, bu⟩ rfl (begun_one_res w ⟨3, pe, bu⟩ ⟨3, pe, bu⟩ _)) rfl ⟨_, _, _, rfl, ?_⟩
              exact (begun_none w ⟨3, pe, bu⟩ ⟨3, pe, bu⟩).alloc _

set_option maxHeartbeats 4000000 in
set_option maxRecDepth 100000 in
theorem refcommand_4 (pe bu : List UInt8) (b : UInt8) (w : World) :
    Calls Tryd.prog 16 #[.agg #[.int .i64 4, .string (ba pe), .string (ba bu)], .int .u8 (b.toNat : Int)] w (Gone w (Vt.rd ⟨4, pe, bu⟩ b).1 (Vt.rd ⟨4, pe, bu⟩ b).2) := by
  rw [Vt.rd_4 rfl]
  by_cases h92 : b.toNat = 92
  · rw [if_pos h92]
    rw [h92]
    unfold Vt.done
    clear h92
    go_enter Tryd.func16, Tryd.ntmps16
    go_wp2
    refine bodyPost_ret (res_two rfl _ _ _ Vt.zero rfl (begun_one_res w ⟨4, pe, bu⟩ Vt.zero _)) rfl ⟨_, _, _, rfl, ?_⟩
    exact begun_one w ⟨4, pe, bu⟩ Vt.zero ⟨5, 0, 0, 0, [], [], bu⟩ rfl _ rfl
  · rw [if_neg h92]
    have z92 : ((b.toNat : Int) == 92) = false := by simp; omega
    have CW := refwithin_1 [] [] b ((begun w ⟨4, pe, bu⟩ Vt.zero).alloc (.cells #[.int .i64 5, .int .i32 0, .int .u8 0, .int .u8 0, .string ⟨#[]⟩, .slice none 0 0, .string (ba bu)] 33)) (by decide)
    have F := Lib.hid ((Bg.start w ⟨4, pe, bu⟩).below ((Below.refl _ _).alloc (Nat.le_refl _) (.cells #[.int .i64 5, .int .i32 0, .int .u8 0, .int .u8 0, .string ⟨#[]⟩, .slice none 0 0, .string (ba bu)] 33)))
    have hi : (⟨1, [], []⟩ : Vt.P) = Vt.inEsc := rfl
    rw [hi] at CW
    generalize (if 128 ≤ b.toNat then Vt.ground [] b else Vt.esc Vt.inEsc b) = R at CW ⊢
    have CW := Lib.hid CW
    clear hi h92
    go_enter Tryd.func16, Tryd.ntmps16
    go_wp2_with fail
    refine CW.out.mono ?_
    rintro e w1 ⟨A1, n1, c1, rfl, hO⟩
    have F1 := Lib.hid (F.out.below hO.low)
    have HO := Lib.hid hO
    clear hO CW
    have y0 := F1.out.2.1.z 0
    have y1 := F1.out.2.1.z 1
    have y2 := F1.out.2.1.z 2
    have x0 := F1.out.2.1.c0
    have x1 := F1.out.2.1.c1
    have x2 := F1.out.2.1.c2
    go_wp2
    refine bodyPost_ret (res_two rfl _ _ _ _ rfl (F1.out.fill _)) rfl ⟨_, _, _, rfl, ?_⟩
    exact OutE.fill F.out HO.out _ _ _

end Go.Proofs.YtihfjkjbeeoanaaDoor
