/-
  What readInGround of vtparse returns.
-/
import Derived.Test.YtihfjkjbeeoanaaDoorRead3
import Derived.Test.YtihfjkjbeeoanaaDoorFinish
import Derived.Deep.AppendLies
namespace Go.Proofs.YtihfjkjbeeoanaaDoor
open Go.RowKit

theorem Pk.grown {w w' : World} {k : Nat} {p : Vt.P} {row : Option Nat} (h : Pk w k p) (hg : w.grownBy w' row) (hne : some k ≠ row) : Pk w' k p := (hg.block k h.lt hne).trans h

set_option maxHeartbeats 2000000 in
set_option maxRecDepth 100000 in
theorem readInGround_ctl (p : Vt.P) (b : UInt8) (w : World) (h1 : Vt.isCtl b = true) (hl : p.pe.length ≤ 900) (hT : Lib.Utf8Tabs 0 1 w) :
    Calls Tryd.prog 25 #[.agg #[.int .i64 p.st, .string (ba p.pe), .string (ba p.bu)], .int .u8 (b.toNat : Int)] w (Gone w (Vt.ground p.pe b).1 (Vt.ground p.pe b).2) := by
  obtain ⟨R, hR⟩ : ∃ R, Vt.ground p.pe b = R := ⟨_, rfl⟩
  rw [hR]
  unfold Vt.ground at hR
  rw [if_pos h1] at hR
  subst hR
  obtain ⟨st, pe, bu⟩ := p
  have cI := fun W => isControl_any b W
  rw [h1] at cI
  have CI := Lib.hid cI
  have F := Lib.hid (Bg.start w ⟨st, pe, bu⟩)
  have CF := Lib.hid (finish_gives (ba pe) (begun w ⟨st, pe, bu⟩ Vt.zero) (by rw [ba_size]; exact Nat.le_trans hl (by decide)) (Utf8Tabs_below hT (begun_low w _ _)))
  clear cI
  rw [ba_list] at CF
  have hel := Vt.ended_len pe
  have hpl : pe.length ≤ 900 := hl
  obtain ⟨q, es, hq⟩ : ∃ q es, Vt.control Vt.zero b = (q, es) := ⟨_, _, rfl⟩
  have CR := fun W => readControl_any Vt.zero b W
  have hcl := Vt.control_len Vt.zero b
  rw [hq] at CR hcl
  have CR := Lib.hid CR
  simp only [hq]
  clear hq
  go_enter Tryd.func25, Tryd.ntmps25
  go_wp2_with fail
  refine (CI.out _).mono ?_
  rintro e w' ⟨rfl, rfl⟩
  clear CI
  go_wp2_with fail
  refine CF.out.mono ?_
  rintro e w1 ⟨A1, n1, c1, rfl, g1⟩
  have F1 := Lib.hid (F.out.below g1.2.2)
  have G1 := Lib.hid g1
  have hn1 : n1 ≤ 1000 := by rw [g1.length]; omega
  clear g1 CF
  go_wp2_with fail
  refine (printEvents_any A1 n1 c1 w1.heap.size _ w1 (Nat.le_refl _) G1.out.1 (by omega)).mono ?_
  rintro e w2 ⟨A2, n2, c2, rfl, hO2⟩
  have F2 := Lib.hid (F1.out.below hO2.low)
  have HO2 := Lib.hid hO2
  clear hO2
  go_wp2_with fail
  refine (CR.out w2).mono ?_
  rintro e w3 ⟨A3, n3, c3, rfl, hO3⟩
  have F3 := Lib.hid (F2.out.below hO3.low)
  have HO3 := Lib.hid hO3
  clear hO3 CR
  have HK : Hid (∀ w4, ((w3.alloc (.cells #[.int .i64 q.st, .string (ba q.pe), .string (ba q.bu)] 23)).drew.grownBy w4 (Value.slice A2 n2 c2).ownBlock ∧ ∀ k, (Value.slice A2 n2 c2).ownBlock = some k → w1.heap.size ≤ k) → Pk w4 w3.heap.size q ∧ Pk w4 (w.heap.size + 1) Vt.zero ∧ Below w1.heap.size w1 w4) := Lib.hid (by
    rintro w4 ⟨hg, hlo⟩
    have k1 : ∀ k, (Value.slice A2 n2 c2).ownBlock = some k → k < w2.heap.size := by
      obtain ⟨gs, _, h2, _⟩ := HO2.out
      exact fun k hk => (h2.lt k hk).2
    have s3 := HO3.out.low.size
    have s1 := F1.out.2.1.lt
    have hq : Pk (w3.alloc (.cells #[.int .i64 q.st, .string (ba q.pe), .string (ba q.bu)] 23)).drew w3.heap.size q := (Pk.laid w3 q).drew
    have hz : Pk (w3.alloc (.cells #[.int .i64 q.st, .string (ba q.pe), .string (ba q.bu)] 23)).drew (w.heap.size + 1) Vt.zero := (F3.out.2.1.alloc _).drew
    have hb : Below w1.heap.size w1 (w3.alloc (.cells #[.int .i64 q.st, .string (ba q.pe), .string (ba q.bu)] 23)).drew := by
      have h := HO2.out.low.trans (HO3.out.low.mono HO2.out.low.size)
      exact (h.alloc h.size _).drew
    refine ⟨hq.grown hg (fun e => ?_), hz.grown hg (fun e => ?_), hb.grown hg hb.size hlo⟩
    · have := k1 _ e.symm
      omega
    · have := hlo _ e.symm
      omega)
  have hpr := Vt.prints_len (U8.ended pe)
  have hsum : (Vt.prints (U8.ended pe)).length + es.length ≤ 100000 := by omega
  have HF : Hid (OutE w2 (w3.alloc (.cells #[.int .i64 q.st, .string (ba q.pe), .string (ba q.bu)] 23)).drew (.slice A3 n3 c3) es) := Lib.hid (HO3.out.alloc _).drew
  clear hpr hel hcl hn1
  go_wp2_with fail
  go_region_law (refine step_joinE (by rfl) _ _ (by rfl) w1 w2 _ _ _ _ A3 n3 c3 (by rfl) (by rfl) HO2.out HF.out hsum ?_; intro A4 n4 c4 w4 hO4 hg4; have hk4 := HK.out w4 hg4.out; have u0 := hk4.1.c0; have u1 := hk4.1.c1; have u2 := hk4.1.c2; have x0 := hk4.2.1.c0; have x1 := hk4.2.1.c1; have x2 := hk4.2.1.c2; have y0 := hk4.2.1.z 0; have y1 := hk4.2.1.z 1; have y2 := hk4.2.1.z 2)
  all_goals
    go_wp2
    refine bodyPost_ret (res_two rfl _ _ _ q rfl (hk4.2.1.all q)) rfl ⟨A4, n4, c4, rfl, ?_⟩
    exact OutE.fill F1.out hO4.out _ _ _

set_option maxHeartbeats 2000000 in
set_option maxRecDepth 100000 in
theorem readInGround_text (p : Vt.P) (b : UInt8) (w : World) (h1 : Vt.isCtl b = false) (hl : p.pe.length ≤ 900) (hT : Lib.Utf8Tabs 0 1 w) :
    Calls Tryd.prog 25 #[.agg #[.int .i64 p.st, .string (ba p.pe), .string (ba p.bu)], .int .u8 (b.toNat : Int)] w (Gone w (Vt.ground p.pe b).1 (Vt.ground p.pe b).2) := by
  obtain ⟨R, hR⟩ : ∃ R, Vt.ground p.pe b = R := ⟨_, rfl⟩
  rw [hR]
  unfold Vt.ground at hR
  rw [if_neg (by rw [h1]; decide)] at hR
  subst hR
  obtain ⟨st, pe, bu⟩ := p
  have cI := fun W => isControl_any b W
  rw [h1] at cI
  have CI := Lib.hid cI
  have hpl : pe.length ≤ 900 := hl
  have hlow : Below w.heap.size w ((begun w ⟨st, pe, bu⟩ Vt.zero).alloc (.cells #[.int .u8 (b.toNat : Int)] 5)) := (begun_low w _ _).alloc (begun_low w _ _).size _
  have F := Lib.hid ((Bg.start w ⟨st, pe, bu⟩).below ((Below.refl _ _).alloc (Nat.le_refl _) (.cells #[.int .u8 (b.toNat : Int)] 5)))
  have CD := decode_gives (ba pe) (ba [b]) ((begun w ⟨st, pe, bu⟩ Vt.zero).alloc (.cells #[.int .u8 (b.toNat : Int)] 5)) (by rw [ba_size, ba_size]; simp; omega) (Utf8Tabs_below hT hlow)
  rw [ba_list, ba_list] at CD
  have hcv := u8_string (begun w ⟨st, pe, bu⟩ Vt.zero) (w.heap.size + 1 + 1) (by rw [begun_size]) b
  have e : begun w ⟨st, pe, bu⟩ Vt.zero = (w.alloc (.cells #[.int .i64 st, .string (ba pe), .string (ba bu)] 23)).alloc (.cells #[.int .i64 0, .string ⟨#[]⟩, .string ⟨#[]⟩] 23) := rfl
  rw [e] at hcv
  have hout := U8.run_out_le (pe ++ [b])
  have hlen : (pe ++ [b]).length = pe.length + 1 := by simp
  generalize U8.run (pe ++ [b]) = r at CD hout
  obtain ⟨o, k⟩ := r
  have CD := Lib.hid CD
  clear cI e hlow
  simp only at hout
  generalize ba [b] = x at hcv CD
  go_enter Tryd.func25, Tryd.ntmps25
  go_wp2_with fail
  refine (CI.out _).mono ?_
  rintro e w' ⟨rfl, rfl⟩
  clear CI
  go_wp2_with fail
  refine CD.out.mono ?_
  rintro e w1 ⟨A1, n1, c1, t, rfl, ht, g1⟩
  obtain rfl : t = ba k := by rw [← ht, ba_of]
  have F1 := Lib.hid (F.out.below g1.2.2)
  have G1 := Lib.hid g1
  have hn1 : n1 ≤ 1000 := by rw [g1.length]; omega
  clear g1 CD ht hcv
  go_wp2_with fail
  refine (printEvents_any A1 n1 c1 w1.heap.size _ w1 (Nat.le_refl _) G1.out.1 (by omega)).mono ?_
  rintro e w2 ⟨A2, n2, c2, rfl, hO2⟩
  have F2 := Lib.hid (F1.out.below hO2.low)
  have HO2 := Lib.hid hO2
  clear hO2
  have y0 := F2.out.2.1.z 0
  have y1 := F2.out.2.1.z 1
  have y2 := F2.out.2.1.z 2
  have x0 := F2.out.2.1.c0
  have x1 := F2.out.2.1.c1
  have x2 := F2.out.2.1.c2
  go_wp2
  refine bodyPost_ret (res_two rfl _ _ _ ⟨0, k, []⟩ rfl (F2.out.2.1.all ⟨0, k, []⟩)) rfl ⟨A2, n2, c2, rfl, ?_⟩
  exact OutE.fill F1.out HO2.out _ _ _
theorem readInGround_any (p : Vt.P) (b : UInt8) (w : World) (hl : p.pe.length ≤ 900) (hT : Lib.Utf8Tabs 0 1 w) :
    Calls Tryd.prog 25 #[.agg #[.int .i64 p.st, .string (ba p.pe), .string (ba p.bu)], .int .u8 (b.toNat : Int)] w (Gone w (Vt.ground p.pe b).1 (Vt.ground p.pe b).2) := by
  cases h1 : Vt.isCtl b
  · exact readInGround_text p b w h1 hl hT
  · exact readInGround_ctl p b w h1 hl hT

end Go.Proofs.YtihfjkjbeeoanaaDoor
