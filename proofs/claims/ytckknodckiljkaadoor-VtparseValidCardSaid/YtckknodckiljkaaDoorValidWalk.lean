/-
  The statement on valid events returns true, for every parser and every string.
-/
import Derived.Test.YtckknodckiljkaaDoorKp
import Derived.Test.YtckknodckiljkaaDoorCheck
import Derived.Test.YtckknodckiljkaaDoorVtOk
namespace Go.Proofs.YtckknodckiljkaaDoor
open Go.RowKit

theorem ok_bounds {e : Vt.E} (h : Vt.chk e = 0) : e.i.length ≤ 9223372036854775807 ∧ e.t.length ≤ 9223372036854775807 ∧ ∀ z ∈ e.ps, -9223372036854775808 ≤ z ∧ z ≤ 9223372036854775807 := by
  have := Vt.ok_small h
  exact ⟨by omega, by omega, fun z hz => by have := this.2.2 z hz; omega⟩

set_option maxHeartbeats 4000000 in
set_option maxRecDepth 100000 in
theorem valid_walk (p : Vt.P) (s : ByteArray) (w : World) (hp : p.pe.length ≤ 9223372036854775807) (hq : p.bu.length ≤ 9223372036854775807) (hs : s.size ≤ 9223372036854775807) (hTP : Lib.Utf8Tabs 0 1 w ∧ Ci.Pw w) :
    Calls Tryd.prog 6 #[.agg #[.int .i64 p.st, .string (ba p.pe), .string (ba p.bu)], .string s] w fun e w' => e = .returned (.bool true) ∧ Below w.heap.size w w' := by
  have hT := hTP.1
  have HP := Lib.hid hTP.2
  clear hTP
  have K0 := Lib.hid ((Kp.start hT).more p)
  obtain ⟨st, pe, bu⟩ := p
  by_cases hbig : 400 < pe.length ∨ 400 < bu.length ∨ 400 < s.size
  · have CL := Lib.hid (fun W => large_yes ⟨st, pe, bu⟩ s W hbig hp hq hs)
    go_enter Tryd.func6, Tryd.ntmps6
    go_wp2_with fail
    refine (CL.out _).mono ?_
    rintro e w1 ⟨rfl, b1⟩
    have K1 := Lib.hid (K0.out.below b1)
    clear CL b1 K0
    go_wp2_with fail
    refine (awake_true w1 K1.out.2.2).mono ?_
    rintro e w2 ⟨rfl, b2⟩
    go_wp2
    go_ret
    exact ⟨rfl, (K1.out.below b2).2.1⟩
  · have hpe : pe.length ≤ 400 := by omega
    have hbu : bu.length ≤ 400 := by omega
    have hss : s.size ≤ 400 := by omega
    have CL := Lib.hid (fun W => large_no ⟨st, pe, bu⟩ s W hpe hbu hss)
    have C1 := fun W hT => feed_any ⟨st, pe, bu⟩ s W (Nat.le_trans hpe (by decide)) (Nat.le_trans hbu (by decide)) (Nat.le_trans hss (by decide)) hT
    have C2 := fun W hT => feed_any (Vt.feed ⟨st, pe, bu⟩ s.data.toList).1 ⟨#[]⟩ W (feed_small _ _).1 (feed_small _ _).2 (by decide) hT
    have e3 : (⟨#[]⟩ : ByteArray).data.toList = [] := rfl
    rw [e3, Vt.feed_nil, Vt.norm_proper (Vt.feed_proper _ _)] at C2
    have hlen := Vt.feed_len ⟨st, pe, bu⟩ s.data.toList
    rw [← Lib.size_eq] at hlen
    have hok := Vt.feed_ok ⟨st, pe, bu⟩ s.data.toList
    generalize Vt.feed ⟨st, pe, bu⟩ s.data.toList = r at C1 C2 hlen hok
    obtain ⟨q, av⟩ := r
    simp only at C1 C2 hlen hok
    have C1 := Lib.hid C1
    have C2 := Lib.hid C2
    have HOK := Lib.hid hok
    clear e3 hbig hok
    go_enter Tryd.func6, Tryd.ntmps6
    go_wp2_with fail
    refine (CL.out _).mono ?_
    rintro e w1 ⟨rfl, b1⟩
    have K1 := Lib.hid (K0.out.below b1)
    clear CL b1 K0
    have z0 := (K1.out.rec 0 rfl).c0
    have z1 := (K1.out.rec 0 rfl).c1
    have z2 := (K1.out.rec 0 rfl).c2
    go_wp2_with fail
    refine (C1.out _ K1.out.2.2).mono ?_
    rintro e w2 ⟨A1, n1, c1, rfl, hO1⟩
    have K2 := Lib.hid ((K1.out.below hO1.low).more q)
    have b3 := (Below.refl w2.heap.size w2).alloc (Nat.le_refl _) (.cells #[.int .i64 q.st, .string (ba q.pe), .string (ba q.bu)] 23)
    have E1 := Lib.hid (hO1.evs.below b3)
    have hn1 : n1 ≤ 10000 := by rw [hO1.len.1]; omega
    clear hO1 C1 K1 z0 z1 z2 b3
    go_wp2
    generalize w2.alloc (.cells #[.int .i64 q.st, .string (ba q.pe), .string (ba q.bu)] 23) = W2 at K2 E1 ⊢
    go_loopg [8, 23] (n1 + 1) (fun gk _ i wr => ∃ k : Nat, gk + k = n1 + 1 ∧ k ≤ n1 ∧ i = .int .i64 (k : Int) ∧ Aside (Below W2.heap.size W2 wr))
    case atStart => exact ⟨0, by omega, Nat.zero_le _, rfl, Below.refl _ _⟩
    case round =>
      obtain ⟨k, hg, hkn, rfl, hB⟩ := hrel
      have K3 := Lib.hid (K2.out.below hB.out)
      by_cases hlt : k < n1
      · obtain ⟨g', rfl⟩ : ∃ g', gk = g' + 1 := ⟨gk - 1, by omega⟩
        have hz : (k : Int) < (n1 : Int) := by omega
        have hz0 : (0 : Int) ≤ (k : Int) := by omega
        obtain ⟨bb, off, A3, n3, c3, e, rfl, he, hlb, hnm, p0, p1, p2, p3, p4, p5, p6⟩ := (E1.out.below hB.out).at k hlt
        have hce := HOK.out e (List.mem_of_getElem? he)
        have hbd := ok_bounds hce
        have hpl := Vt.ok_ps hce
        have hbl := (Below.refl wr.heap.size wr).alloc (Nat.le_refl _) (.cells #[.int .i64 e.k, .int .i32 e.r, .int .u8 (e.c.toNat : Int), .int .u8 (e.p.toNat : Int), .string (ba e.i), .slice A3 n3 c3, .string (ba e.t)] 33)
        have hev : EvOk (wr.alloc (.cells #[.int .i64 e.k, .int .i32 e.r, .int .u8 (e.c.toNat : Int), .int .u8 (e.p.toNat : Int), .string (ba e.i), .slice A3 n3 c3, .string (ba e.t)] 33)) ⟨e, A3, n3, c3⟩ :=
          ⟨(hnm.below hbl (Nat.le_refl _)).more hbl.size, by have := hnm.1; simp only; omega, hbd.1, hbd.2.1, hbd.2.2⟩
        have hbw := K3.out.2.1.trans (hbl.mono K3.out.2.1.size)
        have cC := check_any ⟨e, A3, n3, c3⟩ _ hev (HP.out.below hbw)
        rw [hce] at cC
        have CC := Lib.hid cC
        have HBL := Lib.hid hbl
        clear cC hev hce hbd hpl hnm he hbw hbl
        go_wp2_with fail
        refine CC.out.mono ?_
        rintro e w5 ⟨rfl, b5⟩
        have HB5 := Lib.hid (hB.out.trans ((HBL.out.trans (b5.mono HBL.out.size)).mono hB.out.size))
        clear b5 CC HBL p0 p1 p2 p3 p4 p5 p6
        go_wp2
        go_roundg g'
        case measure => omega
        case rel => exact ⟨k + 1, by omega, by omega, by go_num, HB5.out⟩
      · have hz : ¬ (k : Int) < (n1 : Int) := by omega
        have z0 := (K3.out.rec 1 rfl).c0
        have z1 := (K3.out.rec 1 rfl).c1
        have z2 := (K3.out.rec 1 rfl).c2
        go_wp2_with fail
        refine (C2.out _ K3.out.2.2).mono ?_
        rintro e w4 ⟨A4, n4, c4, rfl, hO4⟩
        obtain rfl : n4 = 0 := hO4.len.1
        have K4 := Lib.hid ((K3.out.below hO4.low).more q)
        have y0 := ((K3.out.below hO4.low).rec 1 rfl).c0
        have y1 := ((K3.out.below hO4.low).rec 1 rfl).c1
        have y2 := ((K3.out.below hO4.low).rec 1 rfl).c2
        have y3 := ((K3.out.below hO4.low).rec 1 rfl).lt
        have CA := Lib.hid (awake_true _ K4.out.2.2)
        clear hO4 C2 z0 z1 z2 K3
        go_wp2_with fail
        refine CA.out.mono ?_
        rintro e w5 ⟨rfl, b5⟩
        go_wp2
        go_ret
        exact ⟨rfl, (K4.out.below b5).2.1⟩

end Go.Proofs.YtckknodckiljkaaDoor
