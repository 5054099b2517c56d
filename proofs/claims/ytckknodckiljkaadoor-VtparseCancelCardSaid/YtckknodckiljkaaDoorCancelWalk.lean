/-
  The statement on cancelling returns true, for every parser and every string.
-/
import Derived.Test.YtckknodckiljkaaDoorKp
namespace Go.Proofs.YtckknodckiljkaaDoor
open Go.RowKit

theorem feed_cancel (p : Vt.P) (l : List UInt8) : ∃ es, (es = [] ∨ es = [Vt.prt 65533]) ∧ Vt.feed (Vt.feed p l).1 [24] = (Vt.zero, es) ∧ Vt.feed p (l ++ [24]) = (Vt.zero, (Vt.feed p l).2 ++ es) := by
  have h := Vt.rd_cancel (Vt.feed_proper p l) 24 rfl
  have e := Vt.feed_one (Vt.feed_proper p l) 24
  obtain ⟨q, es, hq⟩ : ∃ q es, Vt.rd (Vt.feed p l).1 24 = (q, es) := ⟨_, _, rfl⟩
  rw [hq] at h e
  simp only at h
  refine ⟨es, h.2, by rw [e, h.1], ?_⟩
  rw [Vt.feed_append, e, h.1]

set_option maxHeartbeats 2000000 in
set_option maxRecDepth 100000 in
theorem cancel_walk (p : Vt.P) (s : ByteArray) (w : World) (hp : p.pe.length ≤ 9223372036854775807) (hq : p.bu.length ≤ 9223372036854775807) (hs : s.size ≤ 9223372036854775807) (hT : Lib.Utf8Tabs 0 1 w) :
    Calls Tryd.prog 8 #[.agg #[.int .i64 p.st, .string (ba p.pe), .string (ba p.bu)], .string s] w fun e w' => e = .returned (.bool true) ∧ Below w.heap.size w w' := by
  have K0 := Lib.hid ((Kp.start hT).more p)
  obtain ⟨st, pe, bu⟩ := p
  by_cases hbig : 400 < pe.length ∨ 400 < bu.length ∨ 400 < s.size
  · have CL := Lib.hid (fun W => large_yes ⟨st, pe, bu⟩ s W hbig hp hq hs)
    go_enter Tryd.func8, Tryd.ntmps8
    go_wp2_with fail
    refine (CL.out _).mono ?_
    rintro e w1 ⟨rfl, b1⟩
    have K1 := Lib.hid (K0.out.below b1)
    clear CL b1 K0
    go_wp2_with fail
    refine (awake_true w1 K1.out.2.2).mono ?_
    rintro e w2 ⟨rfl, b2⟩
    go_wp2
    go_ret
    exact ⟨rfl, (K1.out.below b2).2.1⟩
  · have hpe : pe.length ≤ 400 := by omega
    have hbu : bu.length ≤ 400 := by omega
    have hss : s.size ≤ 400 := by omega
    have CL := Lib.hid (fun W => large_no ⟨st, pe, bu⟩ s W hpe hbu hss)
    obtain ⟨es, hes, e1, e2⟩ := feed_cancel ⟨st, pe, bu⟩ s.data.toList
    have C1 := fun W hT => feed_any ⟨st, pe, bu⟩ s W (Nat.le_trans hpe (by decide)) (Nat.le_trans hbu (by decide)) (Nat.le_trans hss (by decide)) hT
    have hlen := Vt.feed_len ⟨st, pe, bu⟩ s.data.toList
    rw [← Lib.size_eq] at hlen
    obtain ⟨s2, hs2⟩ : ∃ s2, s ++ (⟨#[24]⟩ : ByteArray) = s2 := ⟨_, rfl⟩
    have hsz2 : s2.size = s.size + 1 := by rw [← hs2, ByteArray.size_append]; rfl
    have C3 := fun W hT => feed_any ⟨st, pe, bu⟩ s2 W (Nat.le_trans hpe (by decide)) (Nat.le_trans hbu (by decide)) (by omega) hT
    have hl2 : s2.data.toList = s.data.toList ++ [24] := by rw [← hs2]; simp [ByteArray.data_append]
    rw [hl2, e2] at C3
    have C2 := fun W hT => feed_any (Vt.feed ⟨st, pe, bu⟩ s.data.toList).1 ⟨#[24]⟩ W (feed_small _ _).1 (feed_small _ _).2 (by decide) hT
    have e3 : (⟨#[24]⟩ : ByteArray).data.toList = [24] := rfl
    rw [e3, e1] at C2
    generalize Vt.feed ⟨st, pe, bu⟩ s.data.toList = r at C1 C2 C3 hlen
    obtain ⟨q, av⟩ := r
    simp only at C1 C2 C3 hlen
    have C1 := Lib.hid C1
    have C2 := Lib.hid C2
    have C3 := Lib.hid C3
    have HS2 := Lib.hid hs2
    have hsum : ¬ 9223372036854775807 < s.size + (⟨#[24]⟩ : ByteArray).size := by
      have : (⟨#[24]⟩ : ByteArray).size = 1 := rfl
      omega
    clear e1 e2 e3 hl2 hs2 hsz2 hbig
    go_enter Tryd.func8, Tryd.ntmps8
    go_wp2_with fail
    refine (CL.out _).mono ?_
    rintro e w1 ⟨rfl, b1⟩
    have K1 := Lib.hid (K0.out.below b1)
    clear CL b1 K0
    have z0 := (K1.out.rec 0 rfl).c0
    have z1 := (K1.out.rec 0 rfl).c1
    have z2 := (K1.out.rec 0 rfl).c2
    go_wp2_with fail
    refine (C1.out _ K1.out.2.2).mono ?_
    rintro e w2 ⟨A1, n1, c1, rfl, hO1⟩
    have K2 := Lib.hid ((K1.out.below hO1.low).more q)
    have O1 := Lib.hid hO1
    have hn1 : n1 = av.length := hO1.len.1
    clear hO1 C1 K1 z0 z1 z2
    go_wp2_with fail
    refine (C2.out _ K2.out.2.2).mono ?_
    rintro e w3 ⟨A2, n2, c2, he, hO2⟩
    have he : e = .returned (.tuple #[.agg #[.int .i64 0, .string ⟨#[]⟩, .string ⟨#[]⟩], .slice A2 n2 c2]) := he
    subst he
    have K3 := Lib.hid ((K2.out.below hO2.low).more Vt.zero)
    have O2 := Lib.hid hO2
    have hn2 : n2 = es.length := hO2.len.1
    clear hO2 C2
    have z0 := ((K2.out.below O2.out.low).rec 0 rfl).c0
    have z1 := ((K2.out.below O2.out.low).rec 0 rfl).c1
    have z2 := ((K2.out.below O2.out.low).rec 0 rfl).c2
    have hk := ((K2.out.below O2.out.low).rec 0 rfl).lt
    clear K2
    go_wp2_with fail
    rw [HS2.out]
    refine (C3.out _ K3.out.2.2).mono ?_
    rintro e w4 ⟨A3, n3, c3, he, hO3⟩
    have he : e = .returned (.tuple #[.agg #[.int .i64 0, .string ⟨#[]⟩, .string ⟨#[]⟩], .slice A3 n3 c3]) := he
    subst he
    have K4 := Lib.hid ((K3.out.below hO3.low).more Vt.zero)
    have hn3 : n3 = av.length + es.length := by rw [hO3.len.1, List.length_append]
    have r0 : w4.cell? ⟨w3.heap.size, 0, none⟩ = some (.int .i64 0) := ((K3.out.below hO3.low).rec 2 rfl).c0
    have r1 : w4.cell? ⟨w3.heap.size, 1, none⟩ = some (.string ⟨#[]⟩) := ((K3.out.below hO3.low).rec 2 rfl).c1
    have r2 : w4.cell? ⟨w3.heap.size, 2, none⟩ = some (.string ⟨#[]⟩) := ((K3.out.below hO3.low).rec 2 rfl).c2
    have hlt : w3.heap.size < w4.heap.size := ((K3.out.below hO3.low).rec 2 rfl).lt
    have E2 : Hid (Evs w4 A2 n2 es) := Lib.hid (by
      have b3 := (Below.refl w3.heap.size w3).alloc (Nat.le_refl _) (.cells #[.int .i64 0, .string ⟨#[]⟩, .string ⟨#[]⟩] 23)
      exact (O2.out.evs.below b3).below hO3.low)
    subst hn1 hn2 hn3
    clear hO3 C3 K3 z0 z1 z2 hk O1 O2
    rcases hes with rfl | rfl
    · have CA := Lib.hid (awake_true _ K4.out.2.2)
      go_wp2_with fail
      refine CA.out.mono ?_
      rintro e w5 ⟨rfl, b5⟩
      go_wp2
      go_ret
      exact ⟨rfl, (K4.out.below b5).2.1⟩
    · obtain ⟨bb, off, A5, n5, c5, e, rfl, he, hlb, hnm, p0, p1, p2, p3, p4, p5, p6⟩ := E2.out.at 0 (by decide)
      obtain rfl : Vt.prt 65533 = e := by simpa using he
      have b4 := (Below.refl w4.heap.size w4).alloc (Nat.le_refl _) (.cells #[.int .i64 0, .string ⟨#[]⟩, .string ⟨#[]⟩] 23)
      have cS := same_any (Vt.prt 65533) A5 none n5 0 c5 0 _ ((hnm.below b4 (Nat.le_refl _)).more b4.size) (ints_none _ _) (by decide)
      have CS := Lib.hid cS
      rw [Nat.zero_mul, Nat.add_zero] at p0 p1 p2 p3 p4 p5 p6
      have p4 : w4.cell? ⟨bb, off + 4, none⟩ = some (.string ⟨#[]⟩) := p4
      have p6 : w4.cell? ⟨bb, off + 6, none⟩ = some (.string ⟨#[]⟩) := p6
      simp only [Vt.prt] at p0 p1 p2 p3
      clear cS he hnm E2 b4
      go_wp2_with fail
      refine CS.out.mono ?_
      rintro e w5 ⟨rfl, b5⟩
      have K5 := Lib.hid (K4.out.below b5)
      have CA := Lib.hid (awake_true _ K5.out.2.2)
      clear CS b5 K4
      go_wp2_with fail
      refine CA.out.mono ?_
      rintro e w6 ⟨rfl, b6⟩
      go_wp2
      go_ret
      exact ⟨rfl, (K5.out.below b6).2.1⟩

end Go.Proofs.YtckknodckiljkaaDoor
