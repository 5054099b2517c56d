/-
  The document's own Feed of layer 6.
-/
import Derived.Test.YtihfjkjbeeoanaaDoorRefCommand
import Derived.Test.YtihfjkjbeeoanaaDoorRefProper
import Derived.Test.YtihfjkjbeeoanaaDoorFeedWalk
namespace Go.Proofs.YtihfjkjbeeoanaaDoor
open Go.RowKit

theorem Vt.proper_rest {p : Vt.P} (h : Vt.proper p = true) (h0 : p.st ≠ 0) : p.pe = [] ∧ p.bu.length ≤ 257 := by
  rcases Vt.proper_st h with e | e | e | e | e
  · exact absurd e h0
  · rw [Vt.proper_1 e] at h
    simp only [Bool.and_eq_true, decide_eq_true_eq, List.isEmpty_iff] at h
    exact ⟨h.1, by omega⟩
  · rw [Vt.proper_2 e] at h
    simp only [Bool.and_eq_true, decide_eq_true_eq, List.isEmpty_iff] at h
    exact ⟨h.1, by omega⟩
  · rw [Vt.proper_34 (.inl e)] at h
    simp only [Bool.and_eq_true, decide_eq_true_eq, List.isEmpty_iff] at h
    exact ⟨h.1, by omega⟩
  · rw [Vt.proper_34 (.inr e)] at h
    simp only [Bool.and_eq_true, decide_eq_true_eq, List.isEmpty_iff] at h
    exact ⟨h.1, by omega⟩
theorem refground_any (p : Vt.P) (b : UInt8) (w : World) (hp : Vt.proper p = true) (h0 : p.st = 0) :
    Calls Tryd.prog 14 #[.agg #[.int .i64 p.st, .string (ba p.pe), .string (ba p.bu)], .int .u8 (b.toNat : Int)] w (Gone w (Vt.rd p b).1 (Vt.rd p b).2) := by
  have ho := (Vt.proper_pending hp h0).1
  rw [Vt.rd_0 (by omega) (by omega) (by omega) (by omega)]
  cases h : Vt.isCtl b
  · exact refground_text p b w h ho
  · exact refground_ctl p b w h ho
theorem refwithin_any (p : Vt.P) (b : UInt8) (w : World) (hp : Vt.proper p = true) (h0 : p.st = 1 ∨ p.st = 2) :
    Calls Tryd.prog 15 #[.agg #[.int .i64 p.st, .string (ba p.pe), .string (ba p.bu)], .int .u8 (b.toNat : Int)] w (Gone w (Vt.rd p b).1 (Vt.rd p b).2) := by
  have hr := Vt.proper_rest hp (by omega)
  obtain ⟨st, pe, bu⟩ := p
  simp only at h0 hr ⊢
  rcases h0 with rfl | rfl
  · rw [Vt.rd_1 rfl]
    exact refwithin_1 pe bu b w (by omega)
  · rw [Vt.rd_2 rfl]
    exact refwithin_2 pe bu b w (by omega)
theorem refcommand_any (p : Vt.P) (b : UInt8) (w : World) (hp : Vt.proper p = true) (h0 : p.st = 3 ∨ p.st = 4) :
    Calls Tryd.prog 16 #[.agg #[.int .i64 p.st, .string (ba p.pe), .string (ba p.bu)], .int .u8 (b.toNat : Int)] w (Gone w (Vt.rd p b).1 (Vt.rd p b).2) := by
  have hr := Vt.proper_rest hp (by omega)
  obtain ⟨st, pe, bu⟩ := p
  simp only at h0 hr ⊢
  rcases h0 with rfl | rfl
  · rw [Vt.rd_3 rfl]
    exact refcommand_3 pe bu b w hr.1 (by omega)
  · exact refcommand_4 pe bu b w

set_option maxHeartbeats 6000000 in
set_option maxRecDepth 100000 in
theorem reffeed_any (p : Vt.P) (s : ByteArray) (w : World) (hpl : p.pe.length ≤ 400) (hbl : p.bu.length ≤ 400) (hs : s.size ≤ 10000) :
    Calls Tryd.prog 7 #[.agg #[.int .i64 p.st, .string (ba p.pe), .string (ba p.bu)], .string s] w (Gone w (Vt.feed p s.data.toList).1 (Vt.feed p s.data.toList).2) := by
  have CI := Lib.hid (refproper_any p (begun w p Vt.zero) hpl hbl)
  have F := Lib.hid (Bg.start w p)
  rw [← upTo_all]
  have HS : Hid (upTo p s 0 = (Vt.norm p, [])) := Lib.hid rfl
  obtain ⟨N, hN⟩ : ∃ N, Vt.norm p = N := ⟨_, rfl⟩
  rw [hN] at HS
  have HN : Hid ((if Vt.proper p then p else Vt.zero) = N) := Lib.hid hN
  clear hN hpl hbl
  generalize hq : Vt.proper p = q at CI HN
  clear hq
  obtain ⟨S, hS⟩ : ∃ S, upTo p s = S := ⟨_, rfl⟩
  have HNext := Lib.hid (upTo_next p s)
  have HProp := Lib.hid (upTo_proper p s)
  have HLen := Lib.hid (upTo_len p s)
  rw [hS] at HS HNext HProp HLen ⊢
  clear hS
  obtain ⟨st, pe, bu⟩ := p
  go_enter Tryd.func7, Tryd.ntmps7
  go_wp2_with fail
  refine CI.out.mono ?_
  rintro e w1 ⟨rfl, b1⟩
  have F1 := Lib.hid (F.out.below b1)
  have z0 := F1.out.1.c0
  have z1 := F1.out.1.c1
  have z2 := F1.out.1.c2
  have y0 := F1.out.1.z 0
  have y1 := F1.out.1.z 1
  have y2 := F1.out.1.z 2
  clear CI F b1
  go_upto_if 11 with fail
  go_cut [12] (fun _ wx => Aside (Bg w wx N))
  case first =>
    have hN := HN.out
    cases q
    · rw [if_neg (by decide)] at hN
      subst hN
      go_wp2
      go_meet
      exact F1.out.turn Vt.zero
    · rw [if_pos rfl] at hN
      subst hN
      go_wp2
      go_meet
      exact F1.out
  case rest =>
    clear z0 z1 z2 y0 y1 y2 F1 HN
    have FN := Lib.hid hcut.out
    clear hcut
    have hfw : w.heap.size + 2 ≤ wc.heap.size := FN.out.2.1.lt
    have O0 := Lib.hid ((OutE.made wc).row.less hfw)
    have F0 := Lib.hid (FN.out.below ((Below.refl wc.heap.size wc).alloc (Nat.le_refl _) (.cells #[] 33)))
    go_wp2
    go_loopg [6, 7, 8] (s.size + 1) (fun gk v i _ wr => ∃ k : Nat, gk + k = s.size + 1 ∧ k ≤ s.size ∧ i = .int .i64 (k : Int) ∧ ∃ A' n' c', v = .slice A' n' c' ∧ Aside (OutR (w.heap.size + 2) wr (.slice A' n' c') (S k).2 ∧ Bg w wr (S k).1))
    case atStart => exact ⟨0, by omega, Nat.zero_le _, rfl, _, 0, 0, rfl, by rw [HS.out]; exact O0.out, by rw [HS.out]; exact F0.out⟩
    case round =>
      clear FN O0 F0
      obtain ⟨k, hg, hks, rfl, A1, n1, c1, rfl, hA⟩ := hrel
      by_cases hlt : k < s.size
      · obtain ⟨g', rfl⟩ : ∃ g', gk = g' + 1 := ⟨gk - 1, by omega⟩
        have hz : (k : Int) < (s.size : Int) := by omega
        have hz0 : (0 : Int) ≤ (k : Int) := by omega
        obtain ⟨b, hb⟩ : ∃ b, s[k] = b := ⟨_, rfl⟩
        have hnext := HNext.out k hlt
        have hprop := HProp.out k
        have hlen := HLen.out k hks
        rw [hb] at hnext
        obtain ⟨pp, es, hSk⟩ : ∃ pp es, S k = (pp, es) := ⟨_, _, rfl⟩
        rw [hSk] at hnext hprop hlen hA
        simp only at hnext hprop hlen hA
        have hfl := Vt.rd_len hprop b
        have C0 := fun h0 => refground_any pp b wr.drew hprop h0
        have C1 := fun h0 => refwithin_any pp b wr.drew hprop h0
        have C3 := fun h0 => refcommand_any pp b wr.drew hprop h0
        have hst := Vt.proper_st hprop
        obtain ⟨q, fs, hq⟩ : ∃ q fs, Vt.rd pp b = (q, fs) := ⟨_, _, rfl⟩
        rw [hq] at hnext C0 C1 C3 hfl
        simp only at hnext C0 C1 C3 hfl
        have HNX := Lib.hid hnext
        have FB := Lib.hid hA.out.2
        have z0 := FB.out.1.c0
        have z1 := FB.out.1.c1
        have z2 := FB.out.1.c2
        have hk2 := FB.out.2.1.lt
        have FD : Hid (Bg w wr.drew pp) := Lib.hid (FB.out.below (Below.refl _ _).drew)
        have HC0 := Lib.hid C0
        have HC1 := Lib.hid C1
        have HC3 := Lib.hid C3
        clear hnext hprop hSk hq C0 C1 C3
        obtain ⟨sp, hsp⟩ : ∃ sp, pp.st = sp := ⟨_, rfl⟩
        rw [hsp] at z0 HC0 HC1 HC3 hst
        have HSP := Lib.hid hsp
        clear hsp
        rcases hst with rfl | rfl | rfl | rfl | rfl
        · have CR := Lib.hid (HC0.out rfl)
          clear HC0 HC1 HC3
          go_upto_region 11 with fail
          have hown := hA.out.1.own
          go_region_law (go_simp; refine CR.out.mono ?_; rintro e w2 ⟨A2, n2, c2, rfl, hO⟩; have F2 := Lib.hid (FD.out.below hO.low); have HO := Lib.hid hO; clear hO; have u0 := F2.out.1.c0; have u1 := F2.out.1.c1; have u2 := F2.out.1.c2; have y0 := F2.out.1.z 0; have y1 := F2.out.1.z 1; have y2 := F2.out.1.z 2)
          all_goals
            clear z0 z1 z2 CR FB FD
            have FT := Lib.hid (F2.out.turn q)
            go_wp2_with (at_builtin; refine wpList_joinR rfl (.tmp 51) (.tmp 52) rfl (w.heap.size + 2) wr.heap.size _ _ es fs A2 n2 c2 rfl rfl (((hA.out.1.below (Below.refl _ _).drew).below HO.out.low).fill (by omega) _ _ _) (HO.out.row.fill (by show w.heap.size < wr.heap.size; omega) _ _ _) FT.out.2.1.lt hk2 (fun k hk => (hown k hk).2) (by omega) ?_; intro A3 n3 c3 w3 hJ)
            go_roundg g'
            case measure => omega
            case rel =>
              refine ⟨k + 1, by omega, by omega, by go_num, A3, n3, c3, rfl, ?_⟩
              rw [HNX.out]
              exact ⟨hJ.out.1, FT.out.grown hJ.out.2 (fun k hk => (hown k hk).1)⟩
        · have CR := Lib.hid (HC1.out (.inl rfl))
          clear HC0 HC1 HC3
          go_upto_region 14 with fail
          have hown := hA.out.1.own
          go_region_law (go_simp; refine CR.out.mono ?_; rintro e w2 ⟨A2, n2, c2, rfl, hO⟩; have F2 := Lib.hid (FD.out.below hO.low); have HO := Lib.hid hO; clear hO; have u0 := F2.out.1.c0; have u1 := F2.out.1.c1; have u2 := F2.out.1.c2; have y0 := F2.out.1.z 0; have y1 := F2.out.1.z 1; have y2 := F2.out.1.z 2)
          all_goals
            clear z0 z1 z2 CR FB FD
            have FT := Lib.hid (F2.out.turn q)
            go_wp2_with (at_builtin; refine wpList_joinR rfl (.tmp 51) (.tmp 52) rfl (w.heap.size + 2) wr.heap.size _ _ es fs A2 n2 c2 rfl rfl (((hA.out.1.below (Below.refl _ _).drew).below HO.out.low).fill (by omega) _ _ _) (HO.out.row.fill (by show w.heap.size < wr.heap.size; omega) _ _ _) FT.out.2.1.lt hk2 (fun k hk => (hown k hk).2) (by omega) ?_; intro A3 n3 c3 w3 hJ)
            go_roundg g'
            case measure => omega
            case rel =>
              refine ⟨k + 1, by omega, by omega, by go_num, A3, n3, c3, rfl, ?_⟩
              rw [HNX.out]
              exact ⟨hJ.out.1, FT.out.grown hJ.out.2 (fun k hk => (hown k hk).1)⟩
        · have CR := Lib.hid (HC1.out (.inr rfl))
          clear HC0 HC1 HC3
          go_upto_region 14 with fail
          have hown := hA.out.1.own
          go_region_law (go_simp; refine CR.out.mono ?_; rintro e w2 ⟨A2, n2, c2, rfl, hO⟩; have F2 := Lib.hid (FD.out.below hO.low); have HO := Lib.hid hO; clear hO; have u0 := F2.out.1.c0; have u1 := F2.out.1.c1; have u2 := F2.out.1.c2; have y0 := F2.out.1.z 0; have y1 := F2.out.1.z 1; have y2 := F2.out.1.z 2)
          all_goals
            clear z0 z1 z2 CR FB FD
            have FT := Lib.hid (F2.out.turn q)
            go_wp2_with (at_builtin; refine wpList_joinR rfl (.tmp 51) (.tmp 52) rfl (w.heap.size + 2) wr.heap.size _ _ es fs A2 n2 c2 rfl rfl (((hA.out.1.below (Below.refl _ _).drew).below HO.out.low).fill (by omega) _ _ _) (HO.out.row.fill (by show w.heap.size < wr.heap.size; omega) _ _ _) FT.out.2.1.lt hk2 (fun k hk => (hown k hk).2) (by omega) ?_; intro A3 n3 c3 w3 hJ)
            go_roundg g'
            case measure => omega
            case rel =>
              refine ⟨k + 1, by omega, by omega, by go_num, A3, n3, c3, rfl, ?_⟩
              rw [HNX.out]
              exact ⟨hJ.out.1, FT.out.grown hJ.out.2 (fun k hk => (hown k hk).1)⟩
        · have CR := Lib.hid (HC3.out (.inl rfl))
          clear HC0 HC1 HC3
          go_upto_region 9 with fail
          have hown := hA.out.1.own
          go_region_law (go_simp; refine CR.out.mono ?_; rintro e w2 ⟨A2, n2, c2, rfl, hO⟩; have F2 := Lib.hid (FD.out.below hO.low); have HO := Lib.hid hO; clear hO; have u0 := F2.out.1.c0; have u1 := F2.out.1.c1; have u2 := F2.out.1.c2; have y0 := F2.out.1.z 0; have y1 := F2.out.1.z 1; have y2 := F2.out.1.z 2)
          all_goals
            clear z0 z1 z2 CR FB FD
            have FT := Lib.hid (F2.out.turn q)
            go_wp2_with (at_builtin; refine wpList_joinR rfl (.tmp 51) (.tmp 52) rfl (w.heap.size + 2) wr.heap.size _ _ es fs A2 n2 c2 rfl rfl (((hA.out.1.below (Below.refl _ _).drew).below HO.out.low).fill (by omega) _ _ _) (HO.out.row.fill (by show w.heap.size < wr.heap.size; omega) _ _ _) FT.out.2.1.lt hk2 (fun k hk => (hown k hk).2) (by omega) ?_; intro A3 n3 c3 w3 hJ)
            go_roundg g'
            case measure => omega
            case rel =>
              refine ⟨k + 1, by omega, by omega, by go_num, A3, n3, c3, rfl, ?_⟩
              rw [HNX.out]
              exact ⟨hJ.out.1, FT.out.grown hJ.out.2 (fun k hk => (hown k hk).1)⟩
        · have CR := Lib.hid (HC3.out (.inr rfl))
          clear HC0 HC1 HC3
          go_upto_region 9 with fail
          have hown := hA.out.1.own
          go_region_law (go_simp; refine CR.out.mono ?_; rintro e w2 ⟨A2, n2, c2, rfl, hO⟩; have F2 := Lib.hid (FD.out.below hO.low); have HO := Lib.hid hO; clear hO; have u0 := F2.out.1.c0; have u1 := F2.out.1.c1; have u2 := F2.out.1.c2; have y0 := F2.out.1.z 0; have y1 := F2.out.1.z 1; have y2 := F2.out.1.z 2)
          all_goals
            clear z0 z1 z2 CR FB FD
            have FT := Lib.hid (F2.out.turn q)
            go_wp2_with (at_builtin; refine wpList_joinR rfl (.tmp 51) (.tmp 52) rfl (w.heap.size + 2) wr.heap.size _ _ es fs A2 n2 c2 rfl rfl (((hA.out.1.below (Below.refl _ _).drew).below HO.out.low).fill (by omega) _ _ _) (HO.out.row.fill (by show w.heap.size < wr.heap.size; omega) _ _ _) FT.out.2.1.lt hk2 (fun k hk => (hown k hk).2) (by omega) ?_; intro A3 n3 c3 w3 hJ)
            go_roundg g'
            case measure => omega
            case rel =>
              refine ⟨k + 1, by omega, by omega, by go_num, A3, n3, c3, rfl, ?_⟩
              rw [HNX.out]
              exact ⟨hJ.out.1, FT.out.grown hJ.out.2 (fun k hk => (hown k hk).1)⟩
      · have hz : ¬ (k : Int) < (s.size : Int) := by omega
        have hkk : k = s.size := by omega
        subst hkk
        have FB := Lib.hid hA.out.2
        have z0 := FB.out.1.c0
        have z1 := FB.out.1.c1
        have z2 := FB.out.1.c2
        have x0 := FB.out.2.1.c0
        have x1 := FB.out.2.1.c1
        have x2 := FB.out.2.1.c2
        have y0 := FB.out.2.1.z 0
        have y1 := FB.out.2.1.z 1
        have y2 := FB.out.2.1.z 2
        go_wp2
        refine bodyPost_ret (res_two rfl _ _ _ _ rfl (FB.out.fill (S s.size).1)) rfl ⟨_, _, _, rfl, ?_⟩
        exact OutR.out ((hA.out.1.fill (by omega) _ _ _).less (by omega)) (below_fill (by omega) FB.out.2.2 _ _ _)

end Go.Proofs.YtihfjkjbeeoanaaDoor
