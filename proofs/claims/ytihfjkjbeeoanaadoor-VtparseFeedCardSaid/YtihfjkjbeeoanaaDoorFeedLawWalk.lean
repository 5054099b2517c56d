/-
  The statement on Feed and Idle and the document's own returns true, for every parser and every string.
-/
import Derived.Test.YtihfjkjbeeoanaaDoorRefFeed
import Derived.Test.YtihfjkjbeeoanaaDoorVtMore
import Derived.Test.YtihfjkjbeeoanaaDoorVtOk
import Derived.Test.YtihfjkjbeeoanaaDoorKp
import Derived.Test.YtihfjkjbeeoanaaDoorSame
namespace Go.Proofs.YtihfjkjbeeoanaaDoor
open Go.RowKit

theorem ps_small (p : Vt.P) (l : List UInt8) : ∀ e ∈ (Vt.feed p l).2, e.ps.length ≤ 100000 := fun e he => Nat.le_trans (Vt.ok_ps (Vt.feed_ok p l e he)) (by decide)
theorem beq_same (a : Int) : (a == a) = true := beq_self_eq_true a
theorem bytes_same (a : ByteArray) : (a.toList == a.toList) = true := beq_self_eq_true _

set_option maxHeartbeats 4000000 in
set_option maxRecDepth 100000 in
theorem feedlaw_walk (p : Vt.P) (s : ByteArray) (w : World) (hp : p.pe.length ≤ 9223372036854775807) (hq : p.bu.length ≤ 9223372036854775807) (hs : s.size ≤ 9223372036854775807) (hT : Lib.Utf8Tabs 0 1 w) :
    Calls Tryd.prog 3 #[.agg #[.int .i64 p.st, .string (ba p.pe), .string (ba p.bu)], .string s] w fun e w' => e = .returned (.bool true) ∧ Below w.heap.size w w' := by
  have K0 := Lib.hid ((Kp.start hT).more p)
  by_cases hbig : 400 < p.pe.length ∨ 400 < p.bu.length ∨ 400 < s.size
  · have CL := Lib.hid (fun W => large_yes p s W hbig hp hq hs)
    obtain ⟨st, pe, bu⟩ := p
    go_enter Tryd.func3, Tryd.ntmps3
    go_wp2_with fail
    refine (CL.out _).mono ?_
    rintro e w1 ⟨rfl, b1⟩
    have K1 := Lib.hid (K0.out.below b1)
    clear CL b1 K0
    go_wp2_with fail
    refine (awake_true w1 K1.out.2.2).mono ?_
    rintro e w2 ⟨rfl, b2⟩
    go_wp2
    go_ret
    exact ⟨rfl, (K1.out.below b2).2.1⟩
  · have hpe : p.pe.length ≤ 400 := by omega
    have hbu : p.bu.length ≤ 400 := by omega
    have hss : s.size ≤ 400 := by omega
    have CL := Lib.hid (fun W => large_no p s W hpe hbu hss)
    have hpsm := ps_small p s.data.toList
    have hlen := Vt.feed_len p s.data.toList
    rw [← Lib.size_eq] at hlen
    have C1 := fun W hT => feed_any p s W (Nat.le_trans hpe (by decide)) (Nat.le_trans hbu (by decide)) (by omega) hT
    have C2 := fun W => reffeed_any p s W hpe hbu (by omega)
    have C3 := fun W hT => idle_any p W hpe hbu hT
    have C4 := fun W => refidle_any p W hpe hbu
    generalize Vt.feed p s.data.toList = r1 at C1 C2 hpsm hlen
    obtain ⟨q, es⟩ := r1
    simp only at C1 C2 hpsm hlen
    generalize Vt.idle p = id at C3 C4
    obtain ⟨st, pe, bu⟩ := p
    have C1 := Lib.hid C1
    have C2 := Lib.hid C2
    have C3 := Lib.hid C3
    have C4 := Lib.hid C4
    have HPS := Lib.hid hpsm
    have hes : es.length ≤ 100000 := by omega
    have HES := Lib.hid hes
    clear hpsm hbig hlen hes hpe hbu hss hp hq hs
    go_enter Tryd.func3, Tryd.ntmps3
    go_wp2_with fail
    refine (CL.out _).mono ?_
    rintro e w1 ⟨rfl, b1⟩
    have K1 := Lib.hid (K0.out.below b1)
    clear CL b1 K0
    have z0 := (K1.out.rec 0 rfl).c0
    have z1 := (K1.out.rec 0 rfl).c1
    have z2 := (K1.out.rec 0 rfl).c2
    have z3 := (K1.out.rec 0 rfl).lt
    go_wp2_with fail
    refine (C1.out _ K1.out.2.2).mono ?_
    rintro e w2 ⟨A1, n1, c1, rfl, hO1⟩
    have K2 := Lib.hid ((K1.out.below hO1.low).more q)
    have E1 := Lib.hid (hO1.evs.below ((Below.refl w2.heap.size w2).alloc (Nat.le_refl _) (.cells #[.int .i64 q.st, .string (ba q.pe), .string (ba q.bu)] 23)))
    have L1 := Lib.hid hO1.len
    have y0 := ((K1.out.below hO1.low).rec 0 rfl).c0
    have y1 := ((K1.out.below hO1.low).rec 0 rfl).c1
    have y2 := ((K1.out.below hO1.low).rec 0 rfl).c2
    have y3 := ((K1.out.below hO1.low).rec 0 rfl).lt
    clear z0 z1 z2 z3 K1 C1 hO1
    go_wp2_with fail
    refine (C2.out _).mono ?_
    rintro e w3 ⟨A2, n2, c2, rfl, hO2⟩
    have b3 := hO2.low
    have b4 := (Below.refl w3.heap.size w3).alloc (Nat.le_refl _) (.cells #[.int .i64 q.st, .string (ba q.pe), .string (ba q.bu)] 23)
    have K3 := Lib.hid ((K2.out.below b3).more q)
    have F1 := Lib.hid ((E1.out.below b3).below b4)
    have F2 := Lib.hid (hO2.evs.below b4)
    have L2 := Lib.hid hO2.len
    have u0 := ((K2.out.below b3).rec 0 rfl).c0
    have u1 := ((K2.out.below b3).rec 0 rfl).c1
    have u2 := ((K2.out.below b3).rec 0 rfl).c2
    have u3 := ((K2.out.below b3).rec 0 rfl).lt
    have v0 := ((K2.out.below b3).rec 1 rfl).c0
    have v1 := ((K2.out.below b3).rec 1 rfl).c1
    have v2 := ((K2.out.below b3).rec 1 rfl).c2
    have v3 := ((K2.out.below b3).rec 1 rfl).lt
    clear y0 y1 y2 y3 K2 E1 C2 hO2 b3 b4
    have hn : n2 = n1 := L2.out.1.trans L1.out.1.symm
    subst hn
    have hn : n2 ≤ 100000 := by have := HES.out; rw [← L1.out.1] at this; exact this
    have W4 : Hid (Kp w (w3.alloc (.cells #[.int .i64 q.st, .string (ba q.pe), .string (ba q.bu)] 23)).drew _) := Lib.hid K3.out.drew
    have S4 := Lib.hid (sameEvents_any es A1 A2 n2 c1 c2 (w3.alloc (.cells #[.int .i64 q.st, .string (ba q.pe), .string (ba q.bu)] 23)).drew (F1.out.below (Below.refl _ _).drew) (F2.out.below (Below.refl _ _).drew) hn HPS.out)
    clear L1 L2 hn K3
    have hself := beq_same q.st
    have hself1 := bytes_same (ba q.pe)
    have hself2 := bytes_same (ba q.bu)
    go_wp2
    go_region_law (first
      | (go_simp; refine S4.out.mono ?_; rintro e w4 ⟨rfl, b4⟩; have K4 := Lib.hid (W4.out.below b4); have x0 := (K4.out.rec 0 rfl).c0; have x1 := (K4.out.rec 0 rfl).c1; have x2 := (K4.out.rec 0 rfl).c2; clear b4)
      | (go_simp; refine (C3.out w4 K4.out.2.2).mono ?_; rintro e w5 ⟨rfl, b5⟩; have K5 := Lib.hid (K4.out.below b5); have y0 := (K5.out.rec 0 rfl).c0; have y1 := (K5.out.rec 0 rfl).c1; have y2 := (K5.out.rec 0 rfl).c2; clear b5)
      | (go_simp; refine (C4.out w5).mono ?_; rintro e w6 ⟨rfl, b6⟩; have K6 := Lib.hid (K5.out.below b6); clear b6)
      | (go_simp; refine (awake_true w6 K6.out.2.2).mono ?_; rintro e w7 ⟨rfl, b7⟩; have K7 := Lib.hid (K6.out.below b7); clear b7))
    all_goals
      go_wp2
      go_ret
      exact ⟨rfl, K7.out.2.1⟩

end Go.Proofs.YtihfjkjbeeoanaaDoor
