/-
  The statement on control characters inside of sequences returns true, for every event and all numbers.
-/
import Derived.Test.YtckknodckiljkaaDoorLong
namespace Go.Proofs.YtckknodckiljkaaDoor
open Go.RowKit

theorem enc_back {e : Vt.E} {s : List UInt8} {f : Int} (h : Vt.encode e = (s, f)) (hf : f = 0) : Vt.chk e = 0 ∧ s = Vt.enc e := by
  subst hf
  unfold Vt.encode at h
  by_cases h0 : Vt.chk e = 0
  · rw [if_pos h0] at h
    injection h with h1 h2
    exact ⟨h0, h1.symm⟩
  · rw [if_neg h0] at h
    injection h with h1 h2
    exact absurd h2 h0
theorem kind_34 {k : Int} (h : k = 3 ∨ k = 4) : ((k != 3) = false ∧ (k != 4) = true) ∨ ((k != 3) = true ∧ (k != 4) = false) := by
  rcases h with rfl | rfl
  · exact .inl ⟨by decide, by decide⟩
  · exact .inr ⟨by decide, by decide⟩
theorem kind_no {k : Int} (h : ¬ (k = 3 ∨ k = 4)) : (k != 3) = true ∧ (k != 4) = true := by
  rw [not_or] at h
  exact ⟨by simpa using h.1, by simpa using h.2⟩
theorem at_num (y : Int) (n : Nat) (h2 : 2 ≤ n) : ∃ k : Nat, 1 + y % ((n : Int) - 1) = (k : Int) ∧ 1 ≤ k ∧ k < n := by
  have h1 := Int.emod_nonneg y (show ((n : Int) - 1) ≠ 0 by omega)
  have h3 := Int.emod_lt_of_pos y (show (0 : Int) < (n : Int) - 1 by omega)
  exact ⟨(1 + y % ((n : Int) - 1)).toNat, by omega, by omega, by omega⟩

theorem ctl_fine (b : UInt8) (w : World) : EvOk w ⟨Vt.ctl b, none, 0, 0⟩ := ⟨⟨rfl, fun j hj => absurd hj (Nat.not_lt_zero j)⟩, Nat.zero_le _, Nat.zero_le _, Nat.zero_le _, fun z hz => absurd hz (by simp [Vt.ctl])⟩
theorem ctl_reported {b : UInt8} (h : Vt.chk (Vt.ctl b) = 0) : Vt.reported b = true := by
  have := (Vt.chk_of h).2.1
  simpa [Vt.fits, Vt.ctl] using this

set_option maxHeartbeats 4000000 in
set_option maxRecDepth 100000 in
theorem controls_walk (g : G) (x y : Int) (w : World) (hE : EvOk w g) (hx0 : 0 ≤ x) (hx1 : x ≤ 255) (hy0 : 0 ≤ y) (hy1 : y ≤ 255) (hTP : Lib.Utf8Tabs 0 1 w ∧ Ci.Pw w) :
    Calls Tryd.prog 9 #[.agg #[.int .i64 g.e.k, .int .i32 g.e.r, .int .u8 (g.e.c.toNat : Int), .int .u8 (g.e.p.toNat : Int), .string (ba g.e.i), .slice g.A g.n g.c, .string (ba g.e.t)], .int .u8 x, .int .u8 y] w fun e w' => e = .returned (.bool true) ∧ Below w.heap.size w w' := by
  have hT := Lib.hid hTP.1
  have HP := Lib.hid hTP.2
  obtain ⟨b, hb⟩ : ∃ b : UInt8, x % 32 = (b.toNat : Int) := ⟨UInt8.ofNat (x % 32).toNat, by rw [UInt8.toNat_ofNat']; omega⟩
  have hbl : b.toNat < 32 := by omega
  have B0 := Lib.hid (pair_low w #[.int .i64 g.e.k, .int .i32 g.e.r, .int .u8 (g.e.c.toNat : Int), .int .u8 (g.e.p.toNat : Int), .string (ba g.e.i), .slice g.A g.n g.c, .string (ba g.e.t)] #[.int .i64 2, .int .i32 0, .int .u8 (b.toNat : Int), .int .u8 0, .string ⟨#[]⟩, .slice none 0 0, .string ⟨#[]⟩])
  have K0 := Lib.hid (pair_1 w #[.int .i64 g.e.k, .int .i32 g.e.r, .int .u8 (g.e.c.toNat : Int), .int .u8 (g.e.p.toNat : Int), .string (ba g.e.i), .slice g.A g.n g.c, .string (ba g.e.t)] #[.int .i64 2, .int .i32 0, .int .u8 (b.toNat : Int), .int .u8 0, .string ⟨#[]⟩, .slice none 0 0, .string ⟨#[]⟩])
  have J0 := Lib.hid (pair_2 w #[.int .i64 g.e.k, .int .i32 g.e.r, .int .u8 (g.e.c.toNat : Int), .int .u8 (g.e.p.toNat : Int), .string (ba g.e.i), .slice g.A g.n g.c, .string (ba g.e.t)] #[.int .i64 2, .int .i32 0, .int .u8 (b.toNat : Int), .int .u8 0, .string ⟨#[]⟩, .slice none 0 0, .string ⟨#[]⟩])
  unfold pairE at B0 K0 J0
  have EV0 := Lib.hid (hE.below B0.out)
  have P0 := Lib.hid (HP.out.below B0.out)
  obtain ⟨r1, hr1⟩ : ∃ r, Vt.encode g.e = r := ⟨_, rfl⟩
  obtain ⟨r2, hr2⟩ : ∃ r, Vt.encode (Vt.ctl b) = r := ⟨_, rfl⟩
  have C1 := fun W hW hP => encode_ev g W hW hP
  have C2 := fun W hW hP => encode_ev ⟨Vt.ctl b, none, 0, 0⟩ W hW hP
  rw [hr1] at C1
  simp only at C2
  rw [hr2] at C2
  obtain ⟨s, f⟩ := r1
  obtain ⟨t, h⟩ := r2
  have HR1 := Lib.hid (fun hf => enc_back hr1 hf)
  have HR2 := Lib.hid (fun hf => enc_back hr2 hf)
  have C1 := Lib.hid C1
  have C2 := Lib.hid C2
  obtain ⟨q, hq⟩ : ∃ q, long g = q := ⟨_, rfl⟩
  have CL := fun W => long_any g W
  rw [hq] at CL
  have CL := Lib.hid CL
  clear hTP hE hr1 hr2 hq
  go_enter Tryd.func9, Tryd.ntmps9
  go_wp2_with fail
  refine (C1.out _ EV0.out P0.out).mono ?_
  rintro e w1 ⟨rfl, b1⟩
  have B1 := Lib.hid (B0.out.trans (b1.mono B0.out.size))
  have K1 := Lib.hid (K0.out.below b1)
  have J1 := Lib.hid (J0.out.below b1)
  have EV1 := Lib.hid (EV0.out.below b1)
  have P1 := Lib.hid (HP.out.below B1.out)
  clear C1 B0 K0 J0 EV0 P0 b1
  have u0 : w1.cell? ⟨w.heap.size + 1, 0, none⟩ = some (.int .i64 2) := J1.out.cell 0
  have u1 : w1.cell? ⟨w.heap.size + 1, 1, none⟩ = some (.int .i32 0) := J1.out.cell 1
  have u2 : w1.cell? ⟨w.heap.size + 1, 2, none⟩ = some (.int .u8 (b.toNat : Int)) := J1.out.cell 2
  have u3 : w1.cell? ⟨w.heap.size + 1, 3, none⟩ = some (.int .u8 0) := J1.out.cell 3
  have u4 : w1.cell? ⟨w.heap.size + 1, 4, none⟩ = some (.string ⟨#[]⟩) := J1.out.cell 4
  have u5 : w1.cell? ⟨w.heap.size + 1, 5, none⟩ = some (.slice none 0 0) := J1.out.cell 5
  have u6 : w1.cell? ⟨w.heap.size + 1, 6, none⟩ = some (.string ⟨#[]⟩) := J1.out.cell 6
  go_wp2_with fail
  refine (C2.out _ (ctl_fine b _) P1.out).mono ?_
  rintro e w2 ⟨rfl, b2⟩
  have B2 := Lib.hid (B1.out.trans (b2.mono B1.out.size))
  have K2 := Lib.hid (K1.out.below b2)
  have J2 := Lib.hid (J1.out.below b2)
  have EV2 := Lib.hid (EV1.out.below b2)
  clear C2 B1 K1 J1 EV1 P1 b2 u0 u1 u2 u3 u4 u5 u6
  have u0 : w2.cell? ⟨w.heap.size, 0, none⟩ = some (.int .i64 g.e.k) := K2.out.cell 0
  have u1 : w2.cell? ⟨w.heap.size, 1, none⟩ = some (.int .i32 g.e.r) := K2.out.cell 1
  have u2 : w2.cell? ⟨w.heap.size, 2, none⟩ = some (.int .u8 (g.e.c.toNat : Int)) := K2.out.cell 2
  have u3 : w2.cell? ⟨w.heap.size, 3, none⟩ = some (.int .u8 (g.e.p.toNat : Int)) := K2.out.cell 3
  have u4 : w2.cell? ⟨w.heap.size, 4, none⟩ = some (.string (ba g.e.i)) := K2.out.cell 4
  have u5 : w2.cell? ⟨w.heap.size, 5, none⟩ = some (.slice g.A g.n g.c) := K2.out.cell 5
  have u6 : w2.cell? ⟨w.heap.size, 6, none⟩ = some (.string (ba g.e.t)) := K2.out.cell 6
  go_wp2_with fail
  refine (CL.out _).mono ?_
  rintro e w3 ⟨rfl, b3⟩
  have B3 := Lib.hid (B2.out.trans (b3.mono B2.out.size))
  have K3 := Lib.hid (K2.out.below b3)
  have J3 := Lib.hid (J2.out.below b3)
  have EV3 := Lib.hid (EV2.out.below b3)
  clear CL B2 K2 J2 EV2 b3 u0 u1 u2 u3 u4 u5 u6
  have v0 : w3.cell? ⟨w.heap.size, 0, none⟩ = some (.int .i64 g.e.k) := K3.out.cell 0
  have SX := Lib.hid (ba_size s)
  cases q
  · by_cases hf : f = 0
    · subst hf
      obtain ⟨h0, hs⟩ := HR1.out rfl
      have HS := Lib.hid hs
      have hsl : s.length ≤ 400 := by rw [hs]; exact Vt.enc_len h0
      have H0 := Lib.hid h0
      clear h0 hs HR1
      by_cases hh : h = 0
      · subst hh
        obtain ⟨h1, ht⟩ := HR2.out rfl
        have HR := Lib.hid (ctl_reported h1)
        have HT1 : t = [b] := ht
        subst HT1
        clear h1 ht HR2
        by_cases hk : g.e.k = 3 ∨ g.e.k = 4
        · have HK := Lib.hid hk
          by_cases hs2 : s.length < 2
          · have hz : ((ba s).size : Int) < 2 := by rw [SX.out]; omega
            rcases kind_34 hk with ⟨k3, k4⟩ | ⟨k3, k4⟩ <;> clear hk
            all_goals
              have CA := Lib.hid (awake_true w3 (Utf8Tabs_below hT.out B3.out))
              go_wp2_with fail
              refine CA.out.mono ?_
              rintro e wz ⟨rfl, bz⟩
              go_wp2
              go_ret
              exact ⟨rfl, B3.out.trans (bz.mono B3.out.size)⟩
          · obtain ⟨k, hkk, hk1, hk2⟩ := at_num y (ba s).size (by rw [SX.out]; omega)
            have hft := Vt.feed_controls H0.out hk k hk1 (by rw [← HS.out, ← SX.out]; exact hk2) HR.out
            rw [← HS.out] at hft
            have hz : ¬ ((ba s).size : Int) < 2 := by rw [SX.out]; omega
            have hzd : (ba s).size ≤ 400 := by rw [SX.out]; exact hsl
            have hkz : (k : Int) ≤ ((ba s).size : Int) := by omega
            have hk0 : (0 : Int) ≤ (k : Int) := by omega
            have hy : (ba [b]).size = 1 := rfl
            have hcat : ((ba s).extract 0 k ++ ba [b] ++ (ba s).extract k (ba s).size).data.toList = s.take k ++ [b] ++ s.drop k := by
              rw [ByteArray.data_append, ByteArray.data_append, Array.toList_append, Array.toList_append, Lib.extract_data, Lib.extract_data, ba_list, ba_list, List.drop_zero, Nat.sub_zero, SX.out, List.take_of_length_le (l := List.drop k s) (by rw [List.length_drop]; exact Nat.le_refl _)]
            obtain ⟨sa, hsa⟩ : ∃ sa, (ba s).extract 0 k = sa := ⟨_, rfl⟩
            obtain ⟨sb, hsb⟩ : ∃ sb, (ba s).extract k (ba s).size = sb := ⟨_, rfl⟩
            have za : sa.size ≤ 400 := by rw [← hsa, ByteArray.size_extract]; omega
            have zb : sb.size ≤ 400 := by rw [← hsb, ByteArray.size_extract]; omega
            rw [hsa, hsb] at hcat
            obtain ⟨Y, hY⟩ : ∃ Y, ba [b] = Y := ⟨_, rfl⟩
            rw [hY] at hy hcat
            obtain ⟨m1, hm1⟩ : ∃ m, sa ++ Y = m := ⟨_, rfl⟩
            rw [hm1] at hcat
            obtain ⟨m2, hm2⟩ : ∃ m, m1 ++ sb = m := ⟨_, rfl⟩
            rw [hm2] at hcat
            have y1 : m1.size ≤ 401 := by rw [← hm1, ByteArray.size_append]; omega
            have y2 : m2.size ≤ 801 := by rw [← hm2, ByteArray.size_append]; omega
            have hs1 : ¬ 9223372036854775807 < sa.size + Y.size := by omega
            have hs3 : ¬ 9223372036854775807 < m1.size + sb.size := by omega
            rw [← hcat] at hft
            have CF := fun W hT => feed_any Vt.zero m2 W (by decide) (by decide) (by omega) hT
            rw [hft] at CF
            have CF := Lib.hid CF
            obtain ⟨X, hX⟩ : ∃ X, ba s = X := ⟨_, rfl⟩
            rw [hX] at hz hzd hkz hsa hsb hkk
            rw [hX, hY]
            have HPL := Lib.hid (Nat.le_trans (Vt.ok_ps H0.out) (by decide : _ ≤ 100000))
            have KP := Lib.hid ((Kp.start hT.out).below B3.out)
            have hX2 : 2 ≤ X.size := by omega
            clear hft hcat hs2 SX HS hX hY hsl hy
            rcases kind_34 hk with ⟨k3, k4⟩ | ⟨k3, k4⟩ <;> clear hk
            all_goals
              go_upto_region 7 with fail
              try rw [hkk]
              clear hkk
              go_cut [13, 14] (fun v13 v14 wx => ∃ kz A1 n1 c1, v13 = .pointer (some ⟨kz, 0, none⟩) ∧ v14 = .slice A1 n1 c1 ∧ Aside (Kp w wx [(kz, Vt.zero)] ∧ OutE w3 wx (.slice A1 n1 c1) [Vt.ctl b, g.e]))
              case first =>
                have T1 := Lib.hid KP.out.drew.2.2
                have T2 := Lib.hid (KP.out.alloc (.cells #[.int .i64 0, .string ⟨#[]⟩, .string ⟨#[]⟩] 23)).drew.2.2
                go_region_law (first
                  | (go_simp; refine (CF.out _ T1.out).mono ?_; rintro e w4 ⟨A1, n1, c1, he, hO⟩; have he : e = .returned (.tuple #[.agg #[.int .i64 0, .string ⟨#[]⟩, .string ⟨#[]⟩], .slice A1 n1 c1]) := he; subst he; have HO := Lib.hid hO; clear hO)
                  | (go_simp; refine (CF.out _ T2.out).mono ?_; rintro e w4 ⟨A1, n1, c1, he, hO⟩; have he : e = .returned (.tuple #[.agg #[.int .i64 0, .string ⟨#[]⟩, .string ⟨#[]⟩], .slice A1 n1 c1]) := he; subst he; have HO := Lib.hid hO; have u0 := (fed_zero hO).c0; have u1 := (fed_zero hO).c1; have u2 := (fed_zero hO).c2; have y0 := (fed_zero hO).z 0; have y1 := (fed_zero hO).z 1; have y2 := (fed_zero hO).z 2; clear hO))
                all_goals
                  go_wp2
                  go_meet
                  first
                    | exact ⟨w4.heap.size, A1, n1, c1, rfl, rfl, fed_after KP.out HO.out Vt.zero⟩
                    | exact ⟨w3.heap.size, A1, n1, c1, rfl, rfl, fed_before hT.out KP.out HO.out Vt.zero⟩
              case rest =>
                obtain ⟨kz, A1, n1, c1, rfl, rfl, hC⟩ := hcut
                have KZ := Lib.hid hC.out.1
                have HO := Lib.hid hC.out.2
                clear hC CF KP
                have hn1 : n1 = 2 := HO.out.len.1
                subst hn1
                have z0 : wc.cell? ⟨kz, 0, none⟩ = some (.int .i64 0) := (KZ.out.rec 0 rfl).c0
                have z1 : wc.cell? ⟨kz, 1, none⟩ = some (.string ⟨#[]⟩) := (KZ.out.rec 0 rfl).c1
                have z2 : wc.cell? ⟨kz, 2, none⟩ = some (.string ⟨#[]⟩) := (KZ.out.rec 0 rfl).c2
                have K4 := Lib.hid (K3.out.below HO.out.low)
                have J4 := Lib.hid (J3.out.below HO.out.low)
                have EV4 := Lib.hid (EV3.out.below HO.out.low)
                clear v0
                have u0 : wc.cell? ⟨w.heap.size, 0, none⟩ = some (.int .i64 g.e.k) := K4.out.cell 0
                have u1 : wc.cell? ⟨w.heap.size, 1, none⟩ = some (.int .i32 g.e.r) := K4.out.cell 1
                have u2 : wc.cell? ⟨w.heap.size, 2, none⟩ = some (.int .u8 (g.e.c.toNat : Int)) := K4.out.cell 2
                have u3 : wc.cell? ⟨w.heap.size, 3, none⟩ = some (.int .u8 (g.e.p.toNat : Int)) := K4.out.cell 3
                have u4 : wc.cell? ⟨w.heap.size, 4, none⟩ = some (.string (ba g.e.i)) := K4.out.cell 4
                have u5 : wc.cell? ⟨w.heap.size, 5, none⟩ = some (.slice g.A g.n g.c) := K4.out.cell 5
                have u6 : wc.cell? ⟨w.heap.size, 6, none⟩ = some (.string (ba g.e.t)) := K4.out.cell 6
                have v0 : wc.cell? ⟨w.heap.size + 1, 0, none⟩ = some (.int .i64 2) := J4.out.cell 0
                have v1 : wc.cell? ⟨w.heap.size + 1, 1, none⟩ = some (.int .i32 0) := J4.out.cell 1
                have v2 : wc.cell? ⟨w.heap.size + 1, 2, none⟩ = some (.int .u8 (b.toNat : Int)) := J4.out.cell 2
                have v3 : wc.cell? ⟨w.heap.size + 1, 3, none⟩ = some (.int .u8 0) := J4.out.cell 3
                have v4 : wc.cell? ⟨w.heap.size + 1, 4, none⟩ = some (.string ⟨#[]⟩) := J4.out.cell 4
                have v5 : wc.cell? ⟨w.heap.size + 1, 5, none⟩ = some (.slice none 0 0) := J4.out.cell 5
                have v6 : wc.cell? ⟨w.heap.size + 1, 6, none⟩ = some (.string ⟨#[]⟩) := J4.out.cell 6
                have h2 := Lib.hid (evs_new wc [⟨Vt.ctl b, none, 0, 0⟩, g] 2 _ rfl rfl 33 (by
                  intro q hq
                  simp only [List.mem_cons, List.not_mem_nil, or_false] at hq
                  rcases hq with rfl | rfl
                  · exact ints_none _ _
                  · exact EV4.out.1) #[.int .i64 2, .int .i32 0, .int .u8 (b.toNat : Int), .int .u8 0, .string ⟨#[]⟩, .slice none 0 0, .string ⟨#[]⟩, .int .i64 g.e.k, .int .i32 g.e.r, .int .u8 (g.e.c.toNat : Int), .int .u8 (g.e.p.toNat : Int), .string (ba g.e.i), .slice g.A g.n g.c, .string (ba g.e.t)] rfl)
                have b3 := (Below.refl wc.heap.size wc).alloc (Nat.le_refl _) (.cells #[.int .i64 2, .int .i32 0, .int .u8 (b.toNat : Int), .int .u8 0, .string ⟨#[]⟩, .slice none 0 0, .string ⟨#[]⟩, .int .i64 g.e.k, .int .i32 g.e.r, .int .u8 (g.e.c.toNat : Int), .int .u8 (g.e.p.toNat : Int), .string (ba g.e.i), .slice g.A g.n g.c, .string (ba g.e.t)] 33)
                have CS := Lib.hid (sameEvents_any [Vt.ctl b, g.e] A1 (some ⟨wc.heap.size, 0, none⟩) 2 c1 2 _ (HO.out.evs.below b3) h2.out (by decide) (by
                  intro e he
                  simp only [List.mem_cons, List.not_mem_nil, or_false] at he
                  rcases he with rfl | rfl
                  · exact Nat.zero_le _
                  · exact HPL.out))
                have B5 := Lib.hid (KZ.out.2.1.trans (b3.mono KZ.out.2.1.size))
                clear b3 h2
                go_wp2_with fail
                refine CS.out.mono ?_
                rintro e w5 ⟨rfl, b5⟩
                have B6 := Lib.hid (B5.out.trans (b5.mono B5.out.size))
                clear CS b5 u0 u1 u2 u3 u4 u5 u6 v0 v1 v2 v3 v4 v5 v6 z0 z1 z2
                have CA := Lib.hid (awake_true w5 (Utf8Tabs_below hT.out B6.out))
                go_wp2_with fail
                refine CA.out.mono ?_
                rintro e wz ⟨rfl, bz⟩
                go_wp2
                go_ret
                exact ⟨rfl, B6.out.trans (bz.mono B6.out.size)⟩
        · obtain ⟨k3, k4⟩ := kind_no hk
          clear hk
          have CA := Lib.hid (awake_true w3 (Utf8Tabs_below hT.out B3.out))
          go_wp2_with fail
          refine CA.out.mono ?_
          rintro e wz ⟨rfl, bz⟩
          go_wp2
          go_ret
          exact ⟨rfl, B3.out.trans (bz.mono B3.out.size)⟩
      · have hne : (h != 0) = true := by simpa using hh
        clear hh
        have CA := Lib.hid (awake_true w3 (Utf8Tabs_below hT.out B3.out))
        go_wp2_with fail
        refine CA.out.mono ?_
        rintro e wz ⟨rfl, bz⟩
        go_wp2
        go_ret
        exact ⟨rfl, B3.out.trans (bz.mono B3.out.size)⟩
    · have hne : (f != 0) = true := by simpa using hf
      clear hf
      have CA := Lib.hid (awake_true w3 (Utf8Tabs_below hT.out B3.out))
      go_wp2_with fail
      refine CA.out.mono ?_
      rintro e wz ⟨rfl, bz⟩
      go_wp2
      go_ret
      exact ⟨rfl, B3.out.trans (bz.mono B3.out.size)⟩
  · skip
    have CA := Lib.hid (awake_true w3 (Utf8Tabs_below hT.out B3.out))
    go_wp2_with fail
    refine CA.out.mono ?_
    rintro e wz ⟨rfl, bz⟩
    go_wp2
    go_ret
    exact ⟨rfl, B3.out.trans (bz.mono B3.out.size)⟩

end Go.Proofs.YtckknodckiljkaaDoor
