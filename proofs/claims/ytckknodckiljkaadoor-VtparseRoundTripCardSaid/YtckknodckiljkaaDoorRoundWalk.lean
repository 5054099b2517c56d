/-
  The statement on encoded events returns true, for every list of events.
-/
import Derived.Test.YtckknodckiljkaaDoorLong
namespace Go.Proofs.YtckknodckiljkaaDoor
open Go.RowKit

theorem flat_take (gs : List G) (k : Nat) (g : G) (h : gs[k]? = some g) : ((gs.take (k + 1)).map G.e).flatMap Vt.enc = ((gs.take k).map G.e).flatMap Vt.enc ++ Vt.enc g.e := by
  rw [List.take_add_one, h]
  simp
theorem flat_len (gs : List G) (h : ∀ g ∈ gs, Vt.chk g.e = 0) : ((gs.map G.e).flatMap Vt.enc).length ≤ 400 * gs.length := by
  induction gs with
  | nil => simp
  | cons g gs ih =>
    have h1 := Vt.enc_len (h g (by simp))
    have h2 := ih (fun x hx => h x (by simp [hx]))
    rw [List.map_cons, List.flatMap_cons, List.length_append, List.length_cons]
    omega

set_option maxHeartbeats 4000000 in
set_option maxRecDepth 100000 in
theorem round_walk (A : Option Addr) (n c : Nat) (gs : List G) (w : World) (hE : EvsOk w A n gs) (hTP : Lib.Utf8Tabs 0 1 w ∧ Ci.Pw w) :
    Calls Tryd.prog 7 #[.slice A n c] w fun e w' => e = .returned (.bool true) ∧ Below w.heap.size w w' := by
  have hT := Lib.hid hTP.1
  have HP := Lib.hid hTP.2
  have hn := hE.2.1
  have HE := Lib.hid hE
  have hgl : gs.length = n := by have := hE.1.length; rwa [List.length_map] at this
  have HGL := Lib.hid hgl
  clear hTP hE hgl
  by_cases h10 : 10 < n
  · have h10z : (10 : Int) < (n : Int) := by omega
    go_enter Tryd.func7, Tryd.ntmps7
    go_wp2_with fail
    refine (awake_true w hT.out).mono ?_
    rintro e w2 ⟨rfl, b2⟩
    go_wp2
    go_ret
    exact ⟨rfl, b2⟩
  · have h10z : ¬ (10 : Int) < (n : Int) := by omega
    go_enter Tryd.func7, Tryd.ntmps7
    go_wp2
    go_loopg [3, 5, 6, 7, 16] (n + 1) (fun gk v3 _ _ _ i wr => ∃ k : Nat, gk + k = n + 1 ∧ k ≤ n ∧ i = .int .i64 (k : Int) ∧ v3 = .string (ba (((gs.take k).map G.e).flatMap Vt.enc)) ∧ Aside (Below w.heap.size w wr ∧ ∀ g ∈ gs.take k, Vt.chk g.e = 0))
    case atStart => exact ⟨0, by omega, Nat.zero_le _, rfl, rfl, Below.refl _ _, fun g hg => by simp at hg⟩
    case round =>
      obtain ⟨k, hg, hkn, rfl, rfl, hA⟩ := hrel
      have hfl := flat_len (gs.take k) hA.out.2
      rw [List.length_take, HGL.out] at hfl
      by_cases hlt : k < n
      · obtain ⟨g', rfl⟩ : ∃ g', gk = g' + 1 := ⟨gk - 1, by omega⟩
        have hz : (k : Int) < (n : Int) := by omega
        have hz0 : (0 : Int) ≤ (k : Int) := by omega
        obtain ⟨bb, off, g, rfl, hgk, hev, p0, p1, p2, p3, p4, p5, p6⟩ := HE.out.at hA.out.1 k hlt
        have HFT := Lib.hid (flat_take gs k g hgk)
        have HGK := Lib.hid hgk
        have hbl := (Below.refl wr.heap.size wr).alloc (Nat.le_refl _) (.cells #[.int .i64 g.e.k, .int .i32 g.e.r, .int .u8 (g.e.c.toNat : Int), .int .u8 (g.e.p.toNat : Int), .string (ba g.e.i), .slice g.A g.n g.c, .string (ba g.e.t)] 33)
        have HK0 := Lib.hid (Ek.laid wr #[.int .i64 g.e.k, .int .i32 g.e.r, .int .u8 (g.e.c.toNat : Int), .int .u8 (g.e.p.toNat : Int), .string (ba g.e.i), .slice g.A g.n g.c, .string (ba g.e.t)])
        have B0 := Lib.hid (hA.out.1.trans (hbl.mono hA.out.1.size))
        have EV0 := Lib.hid (hev.below hbl)
        have CL := Lib.hid (fun W => long_any g W)
        obtain ⟨q, hq⟩ : ∃ q, long g = q := ⟨_, rfl⟩
        rw [hq] at CL
        clear hbl hev hgk hq
        go_wp2_with fail
        refine (CL.out _).mono ?_
        rintro e w1 ⟨rfl, b1⟩
        have B1 := Lib.hid (B0.out.trans (b1.mono B0.out.size))
        have K1 := Lib.hid (HK0.out.below b1)
        have EV1 := Lib.hid (EV0.out.below b1)
        clear CL HK0 B0 EV0 b1 p0 p1 p2 p3 p4 p5 p6
        cases q
        · have y0 : w1.cell? ⟨wr.heap.size, 0, none⟩ = some (.int .i64 g.e.k) := K1.out.cell 0
          have y1 : w1.cell? ⟨wr.heap.size, 1, none⟩ = some (.int .i32 g.e.r) := K1.out.cell 1
          have y2 : w1.cell? ⟨wr.heap.size, 2, none⟩ = some (.int .u8 (g.e.c.toNat : Int)) := K1.out.cell 2
          have y3 : w1.cell? ⟨wr.heap.size, 3, none⟩ = some (.int .u8 (g.e.p.toNat : Int)) := K1.out.cell 3
          have y4 : w1.cell? ⟨wr.heap.size, 4, none⟩ = some (.string (ba g.e.i)) := K1.out.cell 4
          have y5 : w1.cell? ⟨wr.heap.size, 5, none⟩ = some (.slice g.A g.n g.c) := K1.out.cell 5
          have y6 : w1.cell? ⟨wr.heap.size, 6, none⟩ = some (.string (ba g.e.t)) := K1.out.cell 6
          have CE := encode_ev g w1 EV1.out (HP.out.below B1.out)
          by_cases h0 : Vt.chk g.e = 0
          · have e0 : Vt.encode g.e = (Vt.enc g.e, 0) := by unfold Vt.encode; rw [if_pos h0]
            rw [e0] at CE
            simp only at CE
            have CE := Lib.hid CE
            have HEL := Vt.enc_len h0
            have H0 := Lib.hid h0
            have hxs : (ba (((gs.take k).map G.e).flatMap Vt.enc)).size ≤ 10000 := by rw [ba_size]; omega
            have hys : (ba (Vt.enc g.e)).size ≤ 400 := by rw [ba_size]; exact HEL
            have hsum : ¬ 9223372036854775807 < (ba (((gs.take k).map G.e).flatMap Vt.enc)).size + (ba (Vt.enc g.e)).size := by omega
            clear e0 h0 HEL hxs hys
            obtain ⟨X, hX⟩ : ∃ X, ba (((gs.take k).map G.e).flatMap Vt.enc) = X := ⟨_, rfl⟩
            obtain ⟨Y, hY⟩ : ∃ Y, ba (Vt.enc g.e) = Y := ⟨_, rfl⟩
            rw [hY] at CE
            rw [hX, hY] at hsum
            rw [hX]
            have HX := Lib.hid hX
            have HY := Lib.hid hY
            clear hX hY
            go_wp2_with fail
            refine CE.out.mono ?_
            rintro e w2 ⟨rfl, b2⟩
            have B2 := Lib.hid (B1.out.trans (b2.mono B1.out.size))
            have K2 := Lib.hid (K1.out.below b2)
            have CC := check_any g w2 (EV1.out.below b2) (HP.out.below B2.out)
            rw [H0.out] at CC
            have CC := Lib.hid CC
            clear CE b2 y0 y1 y2 y3 y4 y5 y6
            have x0 : w2.cell? ⟨wr.heap.size, 0, none⟩ = some (.int .i64 g.e.k) := K2.out.cell 0
            have x1 : w2.cell? ⟨wr.heap.size, 1, none⟩ = some (.int .i32 g.e.r) := K2.out.cell 1
            have x2 : w2.cell? ⟨wr.heap.size, 2, none⟩ = some (.int .u8 (g.e.c.toNat : Int)) := K2.out.cell 2
            have x3 : w2.cell? ⟨wr.heap.size, 3, none⟩ = some (.int .u8 (g.e.p.toNat : Int)) := K2.out.cell 3
            have x4 : w2.cell? ⟨wr.heap.size, 4, none⟩ = some (.string (ba g.e.i)) := K2.out.cell 4
            have x5 : w2.cell? ⟨wr.heap.size, 5, none⟩ = some (.slice g.A g.n g.c) := K2.out.cell 5
            have x6 : w2.cell? ⟨wr.heap.size, 6, none⟩ = some (.string (ba g.e.t)) := K2.out.cell 6
            go_wp2_with fail
            refine CC.out.mono ?_
            rintro e w3 ⟨rfl, b3⟩
            have B3 := Lib.hid (B2.out.trans (b3.mono B2.out.size))
            clear CC b3 x0 x1 x2 x3 x4 x5 x6
            go_wp2
            go_roundg g'
            case measure => omega
            case rel =>
              refine ⟨k + 1, by omega, by omega, by go_num, ?_, B3.out, ?_⟩
              · rw [HFT.out, ← HX.out, ← HY.out, ba_app]
              · intro x hx
                rw [List.take_add_one, HGK.out, List.mem_append] at hx
                rcases hx with hx | hx
                · exact hA.out.2 x hx
                · simp at hx
                  rw [hx]
                  exact H0.out
          · have e0 : Vt.encode g.e = ([], Vt.chk g.e) := by unfold Vt.encode; rw [if_neg h0]
            rw [e0] at CE
            have CE := Lib.hid CE
            have H0 := Lib.hid h0
            have CCk := Lib.hid (fun W hW hp => check_any g W hW hp)
            generalize Vt.chk g.e = ec at CE H0 CCk
            have hec : (ec != 0) = true := by simpa using H0.out
            have hee : (ec != ec) = false := by simp
            clear e0 h0
            go_wp2_with fail
            refine CE.out.mono ?_
            rintro e w2 ⟨he, b2⟩
            have he : e = .returned (.tuple #[.string ⟨#[]⟩, .int .i64 ec]) := he
            subst he
            have B2 := Lib.hid (B1.out.trans (b2.mono B1.out.size))
            have K2 := Lib.hid (K1.out.below b2)
            have CC := Lib.hid (CCk.out w2 (EV1.out.below b2) (HP.out.below B2.out))
            clear CE b2 y0 y1 y2 y3 y4 y5 y6 CCk
            have x0 : w2.cell? ⟨wr.heap.size, 0, none⟩ = some (.int .i64 g.e.k) := K2.out.cell 0
            have x1 : w2.cell? ⟨wr.heap.size, 1, none⟩ = some (.int .i32 g.e.r) := K2.out.cell 1
            have x2 : w2.cell? ⟨wr.heap.size, 2, none⟩ = some (.int .u8 (g.e.c.toNat : Int)) := K2.out.cell 2
            have x3 : w2.cell? ⟨wr.heap.size, 3, none⟩ = some (.int .u8 (g.e.p.toNat : Int)) := K2.out.cell 3
            have x4 : w2.cell? ⟨wr.heap.size, 4, none⟩ = some (.string (ba g.e.i)) := K2.out.cell 4
            have x5 : w2.cell? ⟨wr.heap.size, 5, none⟩ = some (.slice g.A g.n g.c) := K2.out.cell 5
            have x6 : w2.cell? ⟨wr.heap.size, 6, none⟩ = some (.string (ba g.e.t)) := K2.out.cell 6
            go_wp2_with fail
            refine CC.out.mono ?_
            rintro e w3 ⟨rfl, b3⟩
            have B3 := Lib.hid (B2.out.trans (b3.mono B2.out.size))
            have CA := Lib.hid (awake_true w3 (Utf8Tabs_below hT.out B3.out))
            clear CC b3 x0 x1 x2 x3 x4 x5 x6
            go_wp2_with fail
            refine CA.out.mono ?_
            rintro e w4 ⟨rfl, b4⟩
            go_wp2
            go_ret
            exact ⟨rfl, B3.out.trans (b4.mono B3.out.size)⟩
        · have CA := Lib.hid (awake_true w1 (Utf8Tabs_below hT.out B1.out))
          go_wp2_with fail
          refine CA.out.mono ?_
          rintro e w2 ⟨rfl, b2⟩
          go_wp2
          go_ret
          exact ⟨rfl, B1.out.trans (b2.mono B1.out.size)⟩
      · have hz : ¬ (k : Int) < (n : Int) := by omega
        have htk : gs.take k = gs := List.take_of_length_le (by rw [HGL.out]; omega)
        rw [htk] at hA hfl ⊢
        have hall : ∀ e ∈ gs.map G.e, Vt.chk e = 0 := fun e he => by
          rw [List.mem_map] at he
          obtain ⟨g, hg, rfl⟩ := he
          exact hA.out.2 g hg
        have hft := Vt.feed_trips (gs.map G.e) hall
        have CF := feed_any Vt.zero (ba ((gs.map G.e).flatMap Vt.enc)) wr (by decide) (by decide) (by rw [ba_size]; omega) (Utf8Tabs_below hT.out hA.out.1)
        rw [ba_list, hft] at CF
        have CF := Lib.hid CF
        have HALL := Lib.hid hall
        have HEV := Lib.hid HE.out.1
        have B0 := Lib.hid hA.out.1
        generalize ba ((gs.map G.e).flatMap Vt.enc) = x at CF ⊢
        generalize gs.map G.e = es at CF HALL HEV
        clear hft hall htk hA HE hfl
        go_wp2_with fail
        refine CF.out.mono ?_
        rintro e w1 ⟨A1, n1, c1, he, hO⟩
        have he : e = .returned (.tuple #[.agg #[.int .i64 0, .string ⟨#[]⟩, .string ⟨#[]⟩], .slice A1 n1 c1]) := he
        subst he
        obtain rfl : n = n1 := by rw [hO.len.1, ← HEV.out.length]
        have bl := (Below.refl w1.heap.size w1).alloc (Nat.le_refl _) (.cells #[.int .i64 0, .string ⟨#[]⟩, .string ⟨#[]⟩] 23)
        have B1 := Lib.hid (B0.out.trans (hO.low.mono B0.out.size))
        have B2 := Lib.hid (B1.out.trans (bl.mono B1.out.size))
        have KZ := Lib.hid (Pk.laid w1 Vt.zero)
        have CS := Lib.hid (sameEvents_any es A A1 n c c1 _ ((HEV.out.below B2.out)) (hO.evs.below bl) (by omega) (fun e he => Nat.le_trans (Vt.ok_ps (HALL.out e he)) (by decide)))
        clear CF bl hO
        go_wp2_with fail
        refine CS.out.mono ?_
        rintro e w2 ⟨rfl, b2⟩
        have B3 := Lib.hid (B2.out.trans (b2.mono B2.out.size))
        have z0 : w2.cell? ⟨w1.heap.size, 0, none⟩ = some (.int .i64 0) := (KZ.out.below b2).c0
        have z1 : w2.cell? ⟨w1.heap.size, 1, none⟩ = some (.string ⟨#[]⟩) := (KZ.out.below b2).c1
        have z2 : w2.cell? ⟨w1.heap.size, 2, none⟩ = some (.string ⟨#[]⟩) := (KZ.out.below b2).c2
        have CI := Lib.hid (idle_zero w2)
        clear CS b2 KZ
        go_wp2_with fail
        refine CI.out.mono ?_
        rintro e w3 ⟨rfl, b3⟩
        have B4 := Lib.hid (B3.out.trans (b3.mono B3.out.size))
        have CA := Lib.hid (awake_true w3 (Utf8Tabs_below hT.out B4.out))
        clear CI b3 z0 z1 z2
        go_wp2_with fail
        refine CA.out.mono ?_
        rintro e w4 ⟨rfl, b4⟩
        go_wp2
        go_ret
        exact ⟨rfl, B4.out.trans (b4.mono B4.out.size)⟩

end Go.Proofs.YtckknodckiljkaaDoor
