/-
  The statement on sequences that an escape character or a byte of 128 or more breaks off returns true, for all events and numbers.
-/
import Derived.Test.YtckknodckiljkaaDoorControlsWalk
namespace Go.Proofs.YtckknodckiljkaaDoor
open Go.RowKit

theorem first_byte (t : List UInt8) (h : ¬ t.length < 1) : ∃ b r, t = b :: r := by
  cases t with
  | nil => exact absurd (by decide) h
  | cons b r => exact ⟨b, r, rfl⟩

set_option maxHeartbeats 4000000 in
set_option maxRecDepth 100000 in
theorem broken_walk (g d : G) (y : Int) (w : World) (hE : EvOk w g) (hD : EvOk w d) (hy0 : 0 ≤ y) (hy1 : y ≤ 255) (hTP : Lib.Utf8Tabs 0 1 w ∧ Ci.Pw w) :
    Calls Tryd.prog 11 #[.agg #[.int .i64 g.e.k, .int .i32 g.e.r, .int .u8 (g.e.c.toNat : Int), .int .u8 (g.e.p.toNat : Int), .string (ba g.e.i), .slice g.A g.n g.c, .string (ba g.e.t)], .agg #[.int .i64 d.e.k, .int .i32 d.e.r, .int .u8 (d.e.c.toNat : Int), .int .u8 (d.e.p.toNat : Int), .string (ba d.e.i), .slice d.A d.n d.c, .string (ba d.e.t)], .int .u8 y] w fun e w' => e = .returned (.bool true) ∧ Below w.heap.size w w' := by
  have hT := Lib.hid hTP.1
  have HP := Lib.hid hTP.2
  have B0 := Lib.hid (pair_low w #[.int .i64 g.e.k, .int .i32 g.e.r, .int .u8 (g.e.c.toNat : Int), .int .u8 (g.e.p.toNat : Int), .string (ba g.e.i), .slice g.A g.n g.c, .string (ba g.e.t)] #[.int .i64 d.e.k, .int .i32 d.e.r, .int .u8 (d.e.c.toNat : Int), .int .u8 (d.e.p.toNat : Int), .string (ba d.e.i), .slice d.A d.n d.c, .string (ba d.e.t)])
  have K0 := Lib.hid (pair_1 w #[.int .i64 g.e.k, .int .i32 g.e.r, .int .u8 (g.e.c.toNat : Int), .int .u8 (g.e.p.toNat : Int), .string (ba g.e.i), .slice g.A g.n g.c, .string (ba g.e.t)] #[.int .i64 d.e.k, .int .i32 d.e.r, .int .u8 (d.e.c.toNat : Int), .int .u8 (d.e.p.toNat : Int), .string (ba d.e.i), .slice d.A d.n d.c, .string (ba d.e.t)])
  have J0 := Lib.hid (pair_2 w #[.int .i64 g.e.k, .int .i32 g.e.r, .int .u8 (g.e.c.toNat : Int), .int .u8 (g.e.p.toNat : Int), .string (ba g.e.i), .slice g.A g.n g.c, .string (ba g.e.t)] #[.int .i64 d.e.k, .int .i32 d.e.r, .int .u8 (d.e.c.toNat : Int), .int .u8 (d.e.p.toNat : Int), .string (ba d.e.i), .slice d.A d.n d.c, .string (ba d.e.t)])
  unfold pairE at B0 K0 J0
  have EV0 := Lib.hid (hE.below B0.out)
  have DV0 := Lib.hid (hD.below B0.out)
  have P0 := Lib.hid (HP.out.below B0.out)
  obtain ⟨r1, hr1⟩ : ∃ r, Vt.encode g.e = r := ⟨_, rfl⟩
  obtain ⟨r2, hr2⟩ : ∃ r, Vt.encode d.e = r := ⟨_, rfl⟩
  have C1 := fun W hW hP => encode_ev g W hW hP
  have C2 := fun W hW hP => encode_ev d W hW hP
  rw [hr1] at C1
  rw [hr2] at C2
  obtain ⟨s, f⟩ := r1
  obtain ⟨t, h⟩ := r2
  have HR1 := Lib.hid (fun hf => enc_back hr1 hf)
  have HR2 := Lib.hid (fun hf => enc_back hr2 hf)
  have C1 := Lib.hid C1
  have C2 := Lib.hid C2
  obtain ⟨q, hq⟩ : ∃ q, long g = q := ⟨_, rfl⟩
  have CL := fun W => long_any g W
  rw [hq] at CL
  have CL := Lib.hid CL
  obtain ⟨q2, hq2⟩ : ∃ q, long d = q := ⟨_, rfl⟩
  have CM := fun W => long_any d W
  rw [hq2] at CM
  have CM := Lib.hid CM
  clear hTP hE hD hr1 hr2 hq hq2
  go_enter Tryd.func11, Tryd.ntmps11
  go_wp2_with fail
  refine (C1.out _ EV0.out P0.out).mono ?_
  rintro e w1 ⟨rfl, b1⟩
  have B1 := Lib.hid (B0.out.trans (b1.mono B0.out.size))
  have K1 := Lib.hid (K0.out.below b1)
  have J1 := Lib.hid (J0.out.below b1)
  have DV1 := Lib.hid (DV0.out.below b1)
  have P1 := Lib.hid (HP.out.below B1.out)
  clear C1 B0 K0 J0 EV0 DV0 P0 b1
  have u0 : w1.cell? ⟨w.heap.size + 1, 0, none⟩ = some (.int .i64 d.e.k) := J1.out.cell 0
  have u1 : w1.cell? ⟨w.heap.size + 1, 1, none⟩ = some (.int .i32 d.e.r) := J1.out.cell 1
  have u2 : w1.cell? ⟨w.heap.size + 1, 2, none⟩ = some (.int .u8 (d.e.c.toNat : Int)) := J1.out.cell 2
  have u3 : w1.cell? ⟨w.heap.size + 1, 3, none⟩ = some (.int .u8 (d.e.p.toNat : Int)) := J1.out.cell 3
  have u4 : w1.cell? ⟨w.heap.size + 1, 4, none⟩ = some (.string (ba d.e.i)) := J1.out.cell 4
  have u5 : w1.cell? ⟨w.heap.size + 1, 5, none⟩ = some (.slice d.A d.n d.c) := J1.out.cell 5
  have u6 : w1.cell? ⟨w.heap.size + 1, 6, none⟩ = some (.string (ba d.e.t)) := J1.out.cell 6
  go_wp2_with fail
  refine (C2.out _ DV1.out P1.out).mono ?_
  rintro e w2 ⟨rfl, b2⟩
  have B2 := Lib.hid (B1.out.trans (b2.mono B1.out.size))
  have K2 := Lib.hid (K1.out.below b2)
  have J2 := Lib.hid (J1.out.below b2)
  have DV2 := Lib.hid (DV1.out.below b2)
  clear C2 B1 K1 J1 DV1 P1 b2 u0 u1 u2 u3 u4 u5 u6
  have u0 : w2.cell? ⟨w.heap.size, 0, none⟩ = some (.int .i64 g.e.k) := K2.out.cell 0
  have u1 : w2.cell? ⟨w.heap.size, 1, none⟩ = some (.int .i32 g.e.r) := K2.out.cell 1
  have u2 : w2.cell? ⟨w.heap.size, 2, none⟩ = some (.int .u8 (g.e.c.toNat : Int)) := K2.out.cell 2
  have u3 : w2.cell? ⟨w.heap.size, 3, none⟩ = some (.int .u8 (g.e.p.toNat : Int)) := K2.out.cell 3
  have u4 : w2.cell? ⟨w.heap.size, 4, none⟩ = some (.string (ba g.e.i)) := K2.out.cell 4
  have u5 : w2.cell? ⟨w.heap.size, 5, none⟩ = some (.slice g.A g.n g.c) := K2.out.cell 5
  have u6 : w2.cell? ⟨w.heap.size, 6, none⟩ = some (.string (ba g.e.t)) := K2.out.cell 6
  go_wp2_with fail
  refine (CL.out _).mono ?_
  rintro e wl ⟨rfl, b3⟩
  have BL := Lib.hid (B2.out.trans (b3.mono B2.out.size))
  have KL := Lib.hid (K2.out.below b3)
  have JL := Lib.hid (J2.out.below b3)
  have DVL := Lib.hid (DV2.out.below b3)
  clear CL B2 K2 J2 DV2 b3 u0 u1 u2 u3 u4 u5 u6
  cases q
  rotate_left
  · skip
    have CA := Lib.hid (awake_true wl (Utf8Tabs_below hT.out BL.out))
    go_wp2_with fail
    refine CA.out.mono ?_
    rintro e wz ⟨rfl, bz⟩
    go_wp2
    go_ret
    exact ⟨rfl, BL.out.trans (bz.mono BL.out.size)⟩
  have u0 : wl.cell? ⟨w.heap.size + 1, 0, none⟩ = some (.int .i64 d.e.k) := JL.out.cell 0
  have u1 : wl.cell? ⟨w.heap.size + 1, 1, none⟩ = some (.int .i32 d.e.r) := JL.out.cell 1
  have u2 : wl.cell? ⟨w.heap.size + 1, 2, none⟩ = some (.int .u8 (d.e.c.toNat : Int)) := JL.out.cell 2
  have u3 : wl.cell? ⟨w.heap.size + 1, 3, none⟩ = some (.int .u8 (d.e.p.toNat : Int)) := JL.out.cell 3
  have u4 : wl.cell? ⟨w.heap.size + 1, 4, none⟩ = some (.string (ba d.e.i)) := JL.out.cell 4
  have u5 : wl.cell? ⟨w.heap.size + 1, 5, none⟩ = some (.slice d.A d.n d.c) := JL.out.cell 5
  have u6 : wl.cell? ⟨w.heap.size + 1, 6, none⟩ = some (.string (ba d.e.t)) := JL.out.cell 6
  go_wp2_with fail
  refine (CM.out _).mono ?_
  rintro e w3 ⟨rfl, b3⟩
  have B3 := Lib.hid (BL.out.trans (b3.mono BL.out.size))
  have K3 := Lib.hid (KL.out.below b3)
  have J3 := Lib.hid (JL.out.below b3)
  have DV3 := Lib.hid (DVL.out.below b3)
  clear CM BL KL JL DVL b3 u0 u1 u2 u3 u4 u5 u6
  have v0 : w3.cell? ⟨w.heap.size, 0, none⟩ = some (.int .i64 g.e.k) := K3.out.cell 0
  have SX := Lib.hid (ba_size s)
  have TX := Lib.hid (ba_size t)
  cases q2
  · by_cases hf : f = 0
    · subst hf
      obtain ⟨h0, hs⟩ := HR1.out rfl
      have HS := Lib.hid hs
      have hsl : s.length ≤ 400 := by rw [hs]; exact Vt.enc_len h0
      have H0 := Lib.hid h0
      clear h0 hs HR1
      by_cases hh : h = 0
      · subst hh
        obtain ⟨h1, ht⟩ := HR2.out rfl
        have HT := Lib.hid ht
        have htl : t.length ≤ 400 := by rw [ht]; exact Vt.enc_len h1
        have H1 := Lib.hid h1
        clear h1 ht HR2
        by_cases hk : g.e.k = 3 ∨ g.e.k = 4
        · have HK := Lib.hid hk
          by_cases hs2 : s.length < 2
          · have hz : ((ba s).size : Int) < 2 := by rw [SX.out]; omega
            rcases kind_34 hk with ⟨k3, k4⟩ | ⟨k3, k4⟩ <;> clear hk
            all_goals
              have CA := Lib.hid (awake_true w3 (Utf8Tabs_below hT.out B3.out))
              go_wp2_with fail
              refine CA.out.mono ?_
              rintro e wz ⟨rfl, bz⟩
              go_wp2
              go_ret
              exact ⟨rfl, B3.out.trans (bz.mono B3.out.size)⟩
          · have hz : ¬ ((ba s).size : Int) < 2 := by rw [SX.out]; omega
            by_cases ht1 : t.length < 1
            · have hz1 : ((ba t).size : Int) < 1 := by rw [TX.out]; omega
              rcases kind_34 hk with ⟨k3, k4⟩ | ⟨k3, k4⟩ <;> clear hk
              all_goals
                have CA := Lib.hid (awake_true w3 (Utf8Tabs_below hT.out B3.out))
                go_wp2_with fail
                refine CA.out.mono ?_
                rintro e wz ⟨rfl, bz⟩
                go_wp2
                go_ret
                exact ⟨rfl, B3.out.trans (bz.mono B3.out.size)⟩
            · have hz1 : ¬ ((ba t).size : Int) < 1 := by rw [TX.out]; omega
              have hz2 : (0 : Int) < ((ba t).size : Int) := by rw [TX.out]; omega
              obtain ⟨b, r, hbr⟩ := first_byte t ht1
              have hgetA : ∀ h : 0 < (ba t).size, (ba t)[0]'h = b := by rw [hbr]; intro h; rfl
              have HB := Lib.hid hbr
              clear hbr
              by_cases hb : b.toNat = 27 ∨ 128 ≤ b.toNat
              · obtain ⟨k, hkk, hk1, hk2⟩ := at_num y (ba s).size (by rw [SX.out]; omega)
                have hft := Vt.feed_broken H0.out hk k hk1 (by rw [← HS.out, ← SX.out]; exact hk2) H1.out (by rw [← HT.out]; exact HB.out) hb
                rw [← HS.out, ← HT.out] at hft
                have hzd : (ba s).size ≤ 400 := by rw [SX.out]; exact hsl
                have hzt : (ba t).size ≤ 400 := by rw [TX.out]; exact htl
                have hkz : (k : Int) ≤ ((ba s).size : Int) := by omega
                have hk0 : (0 : Int) ≤ (k : Int) := by omega
                have hcat : ((ba s).extract 0 k ++ ba t).data.toList = s.take k ++ t := by
                  rw [ByteArray.data_append, Array.toList_append, Lib.extract_data, ba_list, ba_list, List.drop_zero, Nat.sub_zero]
                obtain ⟨sa, hsa⟩ : ∃ sa, (ba s).extract 0 k = sa := ⟨_, rfl⟩
                have za : sa.size ≤ 400 := by rw [← hsa, ByteArray.size_extract]; omega
                rw [hsa] at hcat
                obtain ⟨Y, hY⟩ : ∃ Y, ba t = Y := ⟨_, rfl⟩
                rw [hY] at hcat hzt hz1 hz2 hgetA
                have hget := hgetA (by omega)
                clear hgetA
                obtain ⟨m1, hm1⟩ : ∃ m, sa ++ Y = m := ⟨_, rfl⟩
                rw [hm1] at hcat
                have y1 : m1.size ≤ 801 := by rw [← hm1, ByteArray.size_append]; omega
                have hs1 : ¬ 9223372036854775807 < sa.size + Y.size := by omega
                rw [← hcat] at hft
                have CF := fun W hT => feed_any Vt.zero m1 W (by decide) (by decide) (by omega) hT
                rw [hft] at CF
                have CF := Lib.hid CF
                obtain ⟨X, hX⟩ : ∃ X, ba s = X := ⟨_, rfl⟩
                rw [hX] at hz hzd hkz hsa hkk
                rw [hX, hY]
                have HPL := Lib.hid (Nat.le_trans (Vt.ok_ps H1.out) (by decide : _ ≤ 100000))
                have hX2 : 2 ≤ X.size := by omega
                have hbb : ((b.toNat : Int) != 27) = false ∨ (((b.toNat : Int) != 27) = true ∧ ¬ (b.toNat : Int) < 128) := by
                  by_cases h27 : b.toNat = 27
                  · exact .inl (by rw [h27]; rfl)
                  · exact .inr ⟨by rw [bne_iff_ne]; omega, by omega⟩
                have T3 := Lib.hid (Utf8Tabs_below hT.out B3.out)
                clear hft hcat hs2 SX TX HS HT hX hY hsl htl hb
                rcases hbb with hb27 | ⟨hb27, hb128⟩
                all_goals
                  rcases kind_34 hk with ⟨k3, k4⟩ | ⟨k3, k4⟩ <;> clear hk
                all_goals
                  go_wp2_with fail
                  refine (CF.out _ T3.out).mono ?_
                  rintro e w4 ⟨A1, n1, c1, he, hO⟩
                  have he : e = .returned (.tuple #[.agg #[.int .i64 0, .string ⟨#[]⟩, .string ⟨#[]⟩], .slice A1 n1 c1]) := he
                  subst he
                  have HO := Lib.hid hO
                  clear hO CF
                  have hn1 : n1 = 1 := HO.out.len.1
                  subst hn1
                  obtain ⟨wc, hwc⟩ : ∃ wc, w4.alloc (.cells #[.int .i64 0, .string ⟨#[]⟩, .string ⟨#[]⟩] 23) = wc := ⟨_, rfl⟩
                  have bl : Below w4.heap.size w4 wc := by rw [← hwc]; exact (Below.refl w4.heap.size w4).alloc (Nat.le_refl _) _
                  have hsz : wc.heap.size = w4.heap.size + 1 := by rw [← hwc]; simp
                  have bw := HO.out.low.trans (bl.mono HO.out.low.size)
                  have J4 := Lib.hid (J3.out.below bw)
                  have DV4 := Lib.hid (DV3.out.below bw)
                  have B4 := Lib.hid (B3.out.trans (bw.mono B3.out.size))
                  have b3 := (Below.refl wc.heap.size wc).alloc (Nat.le_refl _) (.cells #[.int .i64 d.e.k, .int .i32 d.e.r, .int .u8 (d.e.c.toNat : Int), .int .u8 (d.e.p.toNat : Int), .string (ba d.e.i), .slice d.A d.n d.c, .string (ba d.e.t)] 33)
                  have cS := sameEvents_any [d.e] A1 (some ⟨wc.heap.size, 0, none⟩) 1 c1 1 _ ((HO.out.evs.below bl).below b3) (evs_new wc [d] 1 _ rfl rfl 33 (by
                    intro q hq
                    simp only [List.mem_cons, List.not_mem_nil, or_false] at hq
                    rw [hq]
                    exact DV4.out.1) #[.int .i64 d.e.k, .int .i32 d.e.r, .int .u8 (d.e.c.toNat : Int), .int .u8 (d.e.p.toNat : Int), .string (ba d.e.i), .slice d.A d.n d.c, .string (ba d.e.t)] rfl) (by decide) (by
                    intro e he
                    simp only [List.mem_cons, List.not_mem_nil, or_false] at he
                    rw [he]
                    exact HPL.out)
                  have B5 := Lib.hid (B4.out.trans (b3.mono B4.out.size))
                  have u0 : wc.cell? ⟨w.heap.size + 1, 0, none⟩ = some (.int .i64 d.e.k) := J4.out.cell 0
                  have u1 : wc.cell? ⟨w.heap.size + 1, 1, none⟩ = some (.int .i32 d.e.r) := J4.out.cell 1
                  have u2 : wc.cell? ⟨w.heap.size + 1, 2, none⟩ = some (.int .u8 (d.e.c.toNat : Int)) := J4.out.cell 2
                  have u3 : wc.cell? ⟨w.heap.size + 1, 3, none⟩ = some (.int .u8 (d.e.p.toNat : Int)) := J4.out.cell 3
                  have u4 : wc.cell? ⟨w.heap.size + 1, 4, none⟩ = some (.string (ba d.e.i)) := J4.out.cell 4
                  have u5 : wc.cell? ⟨w.heap.size + 1, 5, none⟩ = some (.slice d.A d.n d.c) := J4.out.cell 5
                  have u6 : wc.cell? ⟨w.heap.size + 1, 6, none⟩ = some (.string (ba d.e.t)) := J4.out.cell 6
                  rw [hsz] at cS
                  rw [← hwc] at cS B5 u0 u1 u2 u3 u4 u5 u6
                  have CS := Lib.hid cS
                  clear b3 cS bl bw hsz hwc v0
                  clear J4 DV4 B4
                  clear wc
                  go_wp2_with fail
                  refine CS.out.mono ?_
                  rintro e w5 ⟨rfl, b5⟩
                  have B6 := Lib.hid (B5.out.trans (b5.mono B5.out.size))
                  clear CS b5 u0 u1 u2 u3 u4 u5 u6
                  have CA := Lib.hid (awake_true w5 (Utf8Tabs_below hT.out B6.out))
                  go_wp2_with fail
                  refine CA.out.mono ?_
                  rintro e wz ⟨rfl, bz⟩
                  go_wp2
                  go_ret
                  exact ⟨rfl, B6.out.trans (bz.mono B6.out.size)⟩
              · have hb27 : ((b.toNat : Int) != 27) = true := by
                  rw [bne_iff_ne]; omega
                have hb128 : (b.toNat : Int) < 128 := by omega
                have hget := hgetA (by omega)
                clear hgetA
                rcases kind_34 hk with ⟨k3, k4⟩ | ⟨k3, k4⟩ <;> clear hk hb
                all_goals
                  have CA := Lib.hid (awake_true w3 (Utf8Tabs_below hT.out B3.out))
                  go_wp2_with fail
                  refine CA.out.mono ?_
                  rintro e wz ⟨rfl, bz⟩
                  go_wp2
                  go_ret
                  exact ⟨rfl, B3.out.trans (bz.mono B3.out.size)⟩
        · obtain ⟨k3, k4⟩ := kind_no hk
          clear hk
          have CA := Lib.hid (awake_true w3 (Utf8Tabs_below hT.out B3.out))
          go_wp2_with fail
          refine CA.out.mono ?_
          rintro e wz ⟨rfl, bz⟩
          go_wp2
          go_ret
          exact ⟨rfl, B3.out.trans (bz.mono B3.out.size)⟩
      · have hne : (h != 0) = true := by simpa using hh
        clear hh
        have CA := Lib.hid (awake_true w3 (Utf8Tabs_below hT.out B3.out))
        go_wp2_with fail
        refine CA.out.mono ?_
        rintro e wz ⟨rfl, bz⟩
        go_wp2
        go_ret
        exact ⟨rfl, B3.out.trans (bz.mono B3.out.size)⟩
    · have hne : (f != 0) = true := by simpa using hf
      clear hf
      have CA := Lib.hid (awake_true w3 (Utf8Tabs_below hT.out B3.out))
      go_wp2_with fail
      refine CA.out.mono ?_
      rintro e wz ⟨rfl, bz⟩
      go_wp2
      go_ret
      exact ⟨rfl, B3.out.trans (bz.mono B3.out.size)⟩
  · skip
    have CA := Lib.hid (awake_true w3 (Utf8Tabs_below hT.out B3.out))
    go_wp2_with fail
    refine CA.out.mono ?_
    rintro e wz ⟨rfl, bz⟩
    go_wp2
    go_ret
    exact ⟨rfl, B3.out.trans (bz.mono B3.out.size)⟩

end Go.Proofs.YtckknodckiljkaaDoor
