/-
  The statement on streams in two chunks returns true, for every parser, every string and every number.
-/
import Derived.Test.YtckknodckiljkaaDoorCopy
import Derived.Test.YtckknodckiljkaaDoorVtMore
namespace Go.Proofs.YtckknodckiljkaaDoor
open Go.RowKit

theorem ps_small (p : Vt.P) (l : List UInt8) : ∀ e ∈ (Vt.feed p l).2, e.ps.length ≤ 100000 := fun e he => Nat.le_trans (Vt.ok_ps (Vt.feed_ok p l e he)) (by decide)

set_option maxHeartbeats 4000000 in
set_option maxRecDepth 100000 in
theorem split_walk (p : Vt.P) (s : ByteArray) (x : Int) (w : World) (hp : p.pe.length ≤ 9223372036854775807) (hq : p.bu.length ≤ 9223372036854775807) (hs : s.size ≤ 9223372036854775807) (hx0 : 0 ≤ x) (hx1 : x ≤ 65535) (hT : Lib.Utf8Tabs 0 1 w) :
    Calls Tryd.prog 5 #[.agg #[.int .i64 p.st, .string (ba p.pe), .string (ba p.bu)], .string s, .int .u16 x] w fun e w' => e = .returned (.bool true) ∧ Below w.heap.size w w' := by
  have K0 := Lib.hid ((Kp.start hT).more p)
  obtain ⟨st, pe, bu⟩ := p
  by_cases hbig : 400 < pe.length ∨ 400 < bu.length ∨ 400 < s.size
  · have CL := Lib.hid (fun W => large_yes ⟨st, pe, bu⟩ s W hbig hp hq hs)
    go_enter Tryd.func5, Tryd.ntmps5
    go_wp2_with fail
    refine (CL.out _).mono ?_
    rintro e w1 ⟨rfl, b1⟩
    have K1 := Lib.hid (K0.out.below b1)
    clear CL b1 K0
    go_wp2_with fail
    refine (awake_true w1 K1.out.2.2).mono ?_
    rintro e w2 ⟨rfl, b2⟩
    go_wp2
    go_ret
    exact ⟨rfl, (K1.out.below b2).2.1⟩
  · have hpe : pe.length ≤ 400 := by omega
    have hbu : bu.length ≤ 400 := by omega
    have hss : s.size ≤ 400 := by omega
    have CL := Lib.hid (fun W => large_no ⟨st, pe, bu⟩ s W hpe hbu hss)
    obtain ⟨k, hk⟩ : ∃ k : Nat, x % ((s.size : Int) + 1) = (k : Int) := ⟨(x % ((s.size : Int) + 1)).toNat, by
      have := Int.emod_nonneg x (show ((s.size : Int) + 1) ≠ 0 by omega); omega⟩
    have hks : k ≤ s.size := by
      have := Int.emod_lt_of_pos x (show (0 : Int) < (s.size : Int) + 1 by omega); omega
    have hkz : (k : Int) ≤ (s.size : Int) := by omega
    have hk0 : (0 : Int) ≤ (k : Int) := by omega
    obtain ⟨sa, hsa⟩ : ∃ sa, s.extract 0 k = sa := ⟨_, rfl⟩
    obtain ⟨sb, hsb⟩ : ∃ sb, s.extract k s.size = sb := ⟨_, rfl⟩
    have za : sa.size = k := by rw [← hsa, ByteArray.size_extract]; omega
    have zb : sb.size + k = s.size := by rw [← hsb, ByteArray.size_extract]; omega
    have hcat : s.data.toList = sa.data.toList ++ sb.data.toList := by
      rw [← hsa, ← hsb, Lib.extract_data, Lib.extract_data, List.drop_zero, Nat.sub_zero, List.take_of_length_le (l := List.drop k s.data.toList) (by rw [List.length_drop, ← Lib.size_eq]; exact Nat.le_refl _), List.take_append_drop]
    have hfa := Vt.feed_append ⟨st, pe, bu⟩ sa.data.toList sb.data.toList
    rw [← hcat] at hfa
    have hpsm := ps_small ⟨st, pe, bu⟩ s.data.toList
    have hlen := Vt.feed_len ⟨st, pe, bu⟩ s.data.toList
    rw [← Lib.size_eq] at hlen
    have C1 := fun W hT => feed_any ⟨st, pe, bu⟩ sa W (Nat.le_trans hpe (by decide)) (Nat.le_trans hbu (by decide)) (by omega) hT
    have C2 := fun W hT => feed_any (Vt.feed ⟨st, pe, bu⟩ sa.data.toList).1 sb W (feed_small _ _).1 (feed_small _ _).2 (by omega) hT
    have C3 := fun W hT => feed_any ⟨st, pe, bu⟩ s W (Nat.le_trans hpe (by decide)) (Nat.le_trans hbu (by decide)) (by omega) hT
    generalize Vt.feed ⟨st, pe, bu⟩ sa.data.toList = r1 at C1 C2 hfa
    obtain ⟨q, ea⟩ := r1
    simp only at C1 C2 hfa
    generalize Vt.feed q sb.data.toList = r2 at C2 hfa
    obtain ⟨r, eb⟩ := r2
    simp only at C2 hfa
    rw [hfa] at C3 hpsm hlen
    simp only at C3 hpsm hlen
    have C1 := Lib.hid C1
    have C2 := Lib.hid C2
    have C3 := Lib.hid C3
    have HPS := Lib.hid hpsm
    rw [List.length_append] at hlen
    clear za zb hcat hfa hpsm hbig
    go_enter Tryd.func5, Tryd.ntmps5
    go_wp2_with fail
    refine (CL.out _).mono ?_
    rintro e w1 ⟨rfl, b1⟩
    have K1 := Lib.hid (K0.out.below b1)
    clear CL b1 K0
    go_upto_region 4 with fail
    rw [hk]
    clear hk
    go_cut [8, 9] (fun v8 v9 wx => ∃ k1 A1 n1 c1, v8 = .pointer (some ⟨k1, 0, none⟩) ∧ v9 = .slice A1 n1 c1 ∧ Aside (Kp w wx [(w.heap.size, ⟨st, pe, bu⟩), (k1, q)] ∧ OutE w1 wx (.slice A1 n1 c1) ea))
    case first =>
      have z0 := (K1.out.rec 0 rfl).c0
      have z1 := (K1.out.rec 0 rfl).c1
      have z2 := (K1.out.rec 0 rfl).c2
      have z3 := (K1.out.rec 0 rfl).lt
      have T1 := Lib.hid K1.out.drew.2.2
      have T2 := Lib.hid (K1.out.alloc (.cells #[.int .i64 0, .string ⟨#[]⟩, .string ⟨#[]⟩] 23)).drew.2.2
      go_region_law (first
        | (go_simp; refine (C1.out _ T1.out).mono ?_; rintro e w2 ⟨A1, n1, c1, rfl, hO⟩; have HO := Lib.hid hO; clear hO)
        | (go_simp; refine (C1.out _ T2.out).mono ?_; rintro e w2 ⟨A1, n1, c1, rfl, hO⟩; have HO := Lib.hid hO; have u0 := (fed_zero hO).c0; have u1 := (fed_zero hO).c1; have u2 := (fed_zero hO).c2; have y0 := (fed_zero hO).z 0; have y1 := (fed_zero hO).z 1; have y2 := (fed_zero hO).z 2; clear hO))
      all_goals
        go_wp2
        go_meet
        first
          | exact ⟨w2.heap.size, A1, n1, c1, rfl, rfl, fed_after K1.out HO.out q⟩
          | exact ⟨w1.heap.size, A1, n1, c1, rfl, rfl, fed_before hT K1.out HO.out q⟩
    case rest =>
      obtain ⟨k1, A1, n1, c1, rfl, rfl, hC⟩ := hcut
      have K2 := Lib.hid hC.out.1
      have O1 := Lib.hid hC.out.2
      clear hC K1 C1
      go_upto_region 5 with fail
      go_cut [10, 11] (fun v8 v9 wx => ∃ k2 A2 n2 c2, v8 = .pointer (some ⟨k2, 0, none⟩) ∧ v9 = .slice A2 n2 c2 ∧ Aside (Kp w wx [(w.heap.size, ⟨st, pe, bu⟩), (k1, q), (k2, r)] ∧ OutE wc wx (.slice A2 n2 c2) eb))
      case first =>
        have z0 := (K2.out.rec 1 rfl).c0
        have z1 := (K2.out.rec 1 rfl).c1
        have z2 := (K2.out.rec 1 rfl).c2
        have z3 := (K2.out.rec 1 rfl).lt
        have T1 := Lib.hid K2.out.drew.2.2
        have T2 := Lib.hid (K2.out.alloc (.cells #[.int .i64 0, .string ⟨#[]⟩, .string ⟨#[]⟩] 23)).drew.2.2
        go_region_law (first
          | (go_simp; refine (C2.out _ T1.out).mono ?_; rintro e w2 ⟨A1, n1, c1, rfl, hO⟩; have HO := Lib.hid hO; clear hO)
          | (go_simp; refine (C2.out _ T2.out).mono ?_; rintro e w2 ⟨A1, n1, c1, rfl, hO⟩; have HO := Lib.hid hO; have u0 := (fed_zero hO).c0; have u1 := (fed_zero hO).c1; have u2 := (fed_zero hO).c2; have y0 := (fed_zero hO).z 0; have y1 := (fed_zero hO).z 1; have y2 := (fed_zero hO).z 2; clear hO))
        all_goals
          go_wp2
          go_meet
          first
            | exact ⟨w2.heap.size, A1, n1, c1, rfl, rfl, fed_after K2.out HO.out r⟩
            | exact ⟨wc.heap.size, A1, n1, c1, rfl, rfl, fed_before hT K2.out HO.out r⟩
      case rest =>
        obtain ⟨k2, A2, n2, c2, rfl, rfl, hC⟩ := hcut
        have K3 := Lib.hid hC.out.1
        have hn1 := Lib.hid O1.out.len
        have hn2 := Lib.hid hC.out.2.len
        have E1 := Lib.hid (O1.out.evs.below hC.out.2.low)
        have E2 := Lib.hid hC.out.2.evs
        clear hC K2 C2 O1
        have z0 := (K3.out.rec 0 rfl).c0
        have z1 := (K3.out.rec 0 rfl).c1
        have z2 := (K3.out.rec 0 rfl).c2
        go_wp2_with fail
        refine (C3.out _ K3.out.2.2).mono ?_
        rintro e w3 ⟨A3, n3, c3, rfl, hO3⟩
        have K4 := Lib.hid ((K3.out.below hO3.low).more r)
        have hn3 := Lib.hid hO3.len
        have b4 := (Below.refl w3.heap.size w3).alloc (Nat.le_refl _) (.cells #[.int .i64 r.st, .string (ba r.pe), .string (ba r.bu)] 23)
        have F1 := Lib.hid ((E1.out.below hO3.low).below b4)
        have F2 := Lib.hid ((E2.out.below hO3.low).below b4)
        have F3 := Lib.hid (hO3.evs.below b4)
        have r0 := ((K3.out.below hO3.low).rec 2 rfl).c0
        have r1 := ((K3.out.below hO3.low).rec 2 rfl).c1
        have r2 := ((K3.out.below hO3.low).rec 2 rfl).c2
        have r3 := ((K3.out.below hO3.low).rec 2 rfl).lt
        clear C3 K3 E1 E2 hO3 z0 z1 z2 b4
        rw [List.length_append] at hn3
        have hw1 : n1 ≤ 10000 ∧ n2 ≤ 10000 ∧ n3 ≤ 10000 := ⟨by have := hn1.out.1; omega, by have := hn2.out.1; omega, by have := hn3.out.1; omega⟩
        by_cases hs0 : s.size = 0
        · have hs0z : ((s.size : Int) == 0) = true := by rw [hs0]; rfl
          have l1 : n1 = 0 := by have := hn1.out.1; omega
          have l2 : n2 = 0 := by have := hn2.out.1; omega
          have l3 : n3 = 0 := by have := hn3.out.1; omega
          subst l1 l2 l3
          have CA := Lib.hid (awake_true _ K4.out.2.2)
          clear hn1 hn2 hn3 hs0 hlen
          go_wp2_with fail
          refine CA.out.mono ?_
          rintro e w5 ⟨rfl, b5⟩
          go_wp2
          go_ret
          exact ⟨rfl, (K4.out.below b5).2.1⟩
        · have hs0z : ((s.size : Int) == 0) = false := by simpa using hs0
          obtain ⟨ga, hga, P1⟩ := F1.out.place
          obtain ⟨gb, hgb, P2⟩ := F2.out.place
          have P1 := Lib.hid P1
          have P2 := Lib.hid P2
          have hla : ga.length ≤ 10000 := by rw [P1.out.1]; exact hw1.1
          have hlb : gb.length ≤ 10000 := by rw [P2.out.1]; exact hw1.2.1
          have HGA := Lib.hid hga
          have HGB := Lib.hid hgb
          clear hga hgb F1 F2 hs0
          have m0 := Mk.start (w3.alloc (.cells #[.int .i64 r.st, .string (ba r.pe), .string (ba r.bu)] 23))
          rw [World.size_alloc] at m0
          have M0 := Lib.hid m0
          clear m0
          have hw2 := hw1.1
          have hw4 := hw1.2.2
          have hw3 := hw1.2.1
          clear hw1
          go_wp2_with (first
            | (at_builtin; refine Ci.wpList_guarded rfl ?_; refine wpList_copy rfl (.tmp 65) (.tmp 66) rfl _ _ _ [] ga A1 n1 c1 rfl rfl M0.out P1.out hn1.out.2 (by simp; omega) ?_; intro A6 n6 c6 w6 hM1)
            | (at_builtin; refine Ci.wpList_guarded rfl ?_; refine wpList_copy rfl (.tmp 67) (.tmp 68) rfl _ _ _ _ gb A2 n2 c2 rfl rfl hM1.out P2.out hn2.out.2 (by simp; omega) ?_; intro A7 n7 c7 w7 hM2))
          have hev : Evs w7 A7 n7 (ea ++ eb) := by
            have := At.read hM2.out (fun g hg => by
              rw [List.nil_append, List.mem_append] at hg
              rcases hg with hg | hg
              · exact P1.out.2.2 g hg
              · exact P2.out.2.2 g hg)
            rw [List.nil_append, List.map_append, HGA.out, HGB.out] at this
            exact this
          have hb7 := hM2.out.2
          have hn7 : n3 = n7 := by
            have := hev.length
            rw [← this, hn3.out.1, List.length_append]
          subst hn7
          have K7 := Lib.hid (K4.out.below hb7)
          have CS := Lib.hid (sameEvents_any (ea ++ eb) A7 A3 n3 c7 c3 w7 hev (F3.out.below hb7) (by omega) HPS.out)
          clear hev hb7
          refine CS.out.mono ?_
          rintro e w8 ⟨rfl, b8⟩
          have CA := Lib.hid (awake_true _ (K7.out.below b8).2.2)
          go_wp2_with fail
          refine CA.out.mono ?_
          rintro e w9 ⟨rfl, b9⟩
          go_wp2
          go_ret
          exact ⟨rfl, ((K7.out.below b8).below b9).2.1⟩

end Go.Proofs.YtckknodckiljkaaDoor
