/-
  What Feed of vtparse returns, for every parser and every chunk of at most 10000 bytes.
-/
import Derived.Test.YtihfjkjbeeoanaaDoorFeed
namespace Go.Proofs.YtihfjkjbeeoanaaDoor
open Go.RowKit

def upTo (p : Vt.P) (s : ByteArray) (k : Nat) : Vt.P × List Vt.E := Vt.from_ (Vt.norm p, []) (s.data.toList.take k)
theorem upTo_next (p : Vt.P) (s : ByteArray) (k : Nat) (h : k < s.size) : upTo p s (k + 1) = ((Vt.rd (upTo p s k).1 s[k]).1, (upTo p s k).2 ++ (Vt.rd (upTo p s k).1 s[k]).2) := by
  unfold upTo
  rw [U8.take_next s k h, Vt.from_snoc]
  rfl
theorem upTo_proper (p : Vt.P) (s : ByteArray) (k : Nat) : Vt.proper (upTo p s k).1 = true := Vt.from_proper _ _ (Vt.proper_norm p)
theorem upTo_all (p : Vt.P) (s : ByteArray) : upTo p s s.size = Vt.feed p s.data.toList := by
  unfold upTo Vt.feed
  rw [List.take_of_length_le (by rw [← Lib.size_eq]; exact Nat.le_refl _)]
theorem upTo_len (p : Vt.P) (s : ByteArray) (k : Nat) (hk : k ≤ s.size) : (upTo p s k).2.length ≤ 8 * s.size := by
  have := Vt.from_len (s.data.toList.take k) (Vt.norm p, []) (Vt.proper_norm p)
  rw [U8.take_len s k hk] at this
  unfold upTo
  simp only [List.length_nil] at this
  omega

set_option maxHeartbeats 4000000 in
set_option maxRecDepth 100000 in
theorem feed_any (p : Vt.P) (s : ByteArray) (w : World) (hpl : p.pe.length ≤ 900) (hbl : p.bu.length ≤ 1000) (hs : s.size ≤ 10000) (hT : Lib.Utf8Tabs 0 1 w) :
    Calls Tryd.prog 6 #[.agg #[.int .i64 p.st, .string (ba p.pe), .string (ba p.bu)], .string s] w (Gone w (Vt.feed p s.data.toList).1 (Vt.feed p s.data.toList).2) := by
  have CI := Lib.hid (isProper_any p (begun w p Vt.zero) hpl hbl (Utf8Tabs_below hT (begun_low w _ _)))
  have F := Lib.hid (Bg.start w p)
  rw [← upTo_all]
  have HS : Hid (upTo p s 0 = (Vt.norm p, [])) := Lib.hid rfl
  obtain ⟨N, hN⟩ : ∃ N, Vt.norm p = N := ⟨_, rfl⟩
  rw [hN] at HS
  have HN : Hid ((if Vt.proper p then p else Vt.zero) = N) := Lib.hid hN
  clear hN hpl hbl
  generalize hq : Vt.proper p = q at CI HN
  clear hq
  obtain ⟨S, hS⟩ : ∃ S, upTo p s = S := ⟨_, rfl⟩
  have HNext := Lib.hid (upTo_next p s)
  have HProp := Lib.hid (upTo_proper p s)
  have HLen := Lib.hid (upTo_len p s)
  rw [hS] at HS HNext HProp HLen ⊢
  clear hS
  obtain ⟨st, pe, bu⟩ := p
  go_enter Tryd.func6, Tryd.ntmps6
  go_wp2_with fail
  refine CI.out.mono ?_
  rintro e w1 ⟨rfl, b1⟩
  have F1 := Lib.hid (F.out.below b1)
  have z0 := F1.out.1.c0
  have z1 := F1.out.1.c1
  have z2 := F1.out.1.c2
  have y0 := F1.out.1.z 0
  have y1 := F1.out.1.z 1
  have y2 := F1.out.1.z 2
  clear CI F b1
  go_upto_if 11 with fail
  go_cut [12] (fun _ wx => Aside (Bg w wx N))
  case first =>
    have hN := HN.out
    cases q
    · rw [if_neg (by decide)] at hN
      subst hN
      go_wp2
      go_meet
      exact F1.out.turn Vt.zero
    · rw [if_pos rfl] at hN
      subst hN
      go_wp2
      go_meet
      exact F1.out
  case rest =>
    clear z0 z1 z2 y0 y1 y2 F1 HN
    have FN := Lib.hid hcut.out
    clear hcut
    go_wp2
    go_loopg [6, 7, 8, 15] (s.size + 1) (fun gk v _ _ i wr => ∃ k : Nat, gk + k = s.size + 1 ∧ k ≤ s.size ∧ i = .int .i64 (k : Int) ∧ ∃ A' n' c', v = .slice A' n' c' ∧ Aside (OutR (w.heap.size + 2) wr (.slice A' n' c') (S k).2 ∧ Bg w wr (S k).1))
    case atStart => exact ⟨0, by omega, Nat.zero_le _, rfl, none, 0, 0, rfl, by rw [HS.out]; exact OutR.start _ _, by rw [HS.out]; exact FN.out⟩
    case round =>
      clear FN
      obtain ⟨k, hg, hks, rfl, A1, n1, c1, rfl, hA⟩ := hrel
      by_cases hlt : k < s.size
      · obtain ⟨g', rfl⟩ : ∃ g', gk = g' + 1 := ⟨gk - 1, by omega⟩
        have hz : (k : Int) < (s.size : Int) := by omega
        have hz0 : (0 : Int) ≤ (k : Int) := by omega
        obtain ⟨b, hb⟩ : ∃ b, s[k] = b := ⟨_, rfl⟩
        have hnext := HNext.out k hlt
        have hprop := HProp.out k
        have hlen := HLen.out k hks
        rw [hb] at hnext
        obtain ⟨pp, es, hSk⟩ : ∃ pp es, S k = (pp, es) := ⟨_, _, rfl⟩
        rw [hSk] at hnext hprop hlen hA
        simp only at hnext hprop hlen hA
        have hfl := Vt.rd_len hprop b
        have CR := read_any pp b wr.drew hprop (Utf8Tabs_below hT hA.out.2.2.2 : Lib.Utf8Tabs 0 1 wr)
        obtain ⟨q, fs, hq⟩ : ∃ q fs, Vt.rd pp b = (q, fs) := ⟨_, _, rfl⟩
        rw [hq] at hnext CR hfl
        simp only at hnext CR hfl
        have CR := Lib.hid CR
        have HNX := Lib.hid hnext
        have FB := Lib.hid hA.out.2
        have z0 := FB.out.1.c0
        have z1 := FB.out.1.c1
        have z2 := FB.out.1.c2
        have hk2 := FB.out.2.1.lt
        have FD : Hid (Bg w wr.drew pp) := Lib.hid (FB.out.below (Below.refl _ _).drew)
        clear hnext hprop hSk hq
        go_upto_region 8 with fail
        go_cut [8] (fun v8 wx => ∃ A2 n2 c2, v8 = .slice A2 n2 c2 ∧ Aside (OutR wr.heap.size wx (.slice A2 n2 c2) fs ∧ OutR (w.heap.size + 2) wx (.slice A1 n1 c1) es ∧ Bg w wx q))
        case first =>
          go_region_law (go_simp; refine CR.out.mono ?_; rintro e w2 ⟨A2, n2, c2, rfl, hO⟩; have F2 := Lib.hid (FD.out.below hO.low); have HO := Lib.hid hO; clear hO; have u0 := F2.out.1.c0; have u1 := F2.out.1.c1; have u2 := F2.out.1.c2; have y0 := F2.out.1.z 0; have y1 := F2.out.1.z 1; have y2 := F2.out.1.z 2)
          all_goals
            go_wp2
            go_meet
            refine ⟨A2, n2, c2, rfl, ?_⟩
            exact ⟨HO.out.row.fill (by show w.heap.size < wr.heap.size; omega) _ _ _, ((hA.out.1.below (Below.refl _ _).drew).below HO.out.low).fill (by omega) _ _ _, F2.out.turn q⟩
        case rest =>
          obtain ⟨A2, n2, c2, rfl, hC⟩ := hcut
          have hown := hA.out.1.own
          clear z0 z1 z2 CR FB FD
          have hlo : w.heap.size + 2 ≤ wc.heap.size := hC.out.2.2.2.1.lt
          go_wp2_with (at_builtin; refine wpList_joinR rfl (.tmp 26) (.tmp 27) rfl (w.heap.size + 2) wr.heap.size _ _ es fs A2 n2 c2 rfl rfl hC.out.2.1 hC.out.1 hlo hk2 (fun k hk => (hown k hk).2) (by omega) ?_; intro A3 n3 c3 w3 hJ)
          go_roundg g'
          case measure => omega
          case rel =>
            refine ⟨k + 1, by omega, by omega, by go_num, A3, n3, c3, rfl, ?_⟩
            rw [HNX.out]
            exact ⟨hJ.out.1, hC.out.2.2.grown hJ.out.2 (fun k hk => (hown k hk).1)⟩
      · have hz : ¬ (k : Int) < (s.size : Int) := by omega
        have hkk : k = s.size := by omega
        subst hkk
        have FB := Lib.hid hA.out.2
        have z0 := FB.out.1.c0
        have z1 := FB.out.1.c1
        have z2 := FB.out.1.c2
        have x0 := FB.out.2.1.c0
        have x1 := FB.out.2.1.c1
        have x2 := FB.out.2.1.c2
        have y0 := FB.out.2.1.z 0
        have y1 := FB.out.2.1.z 1
        have y2 := FB.out.2.1.z 2
        go_wp2
        refine bodyPost_ret (res_two rfl _ _ _ _ rfl (FB.out.fill (S s.size).1)) rfl ⟨_, _, _, rfl, ?_⟩
        exact OutR.out ((hA.out.1.fill (by omega) _ _ _).less (by omega)) (below_fill (by omega) FB.out.2.2 _ _ _)

end Go.Proofs.YtihfjkjbeeoanaaDoor
