/-
  The statement VtparseEncode: it returns true at every event.
-/
import Derived.Test.YtckknodckiljkaaDoorRefC
import Derived.Test.YtckknodckiljkaaDoorRefA
import Derived.Deep.RegionHeld3
import Derived.Test.YtckknodckiljkaaDoorRowE5
namespace Go.Proofs.YtckknodckiljkaaDoor
open Go.RowKit

set_option maxHeartbeats 1000000 in
set_option maxRecDepth 100000 in
theorem refenc_bad (g : G) (w : World) (h : EvOk w g) (hl : long g = false) (hne : Vt.chk g.e ≠ 0) :
    Calls Tryd.prog 21 #[.agg #[.int .i64 g.e.k, .int .i32 g.e.r, .int .u8 (g.e.c.toNat : Int), .int .u8 (g.e.p.toNat : Int), .string (ba g.e.i), .slice g.A g.n g.c, .string (ba g.e.t)]] w fun x w' => x = .returned (.tuple #[.string ⟨#[]⟩, .int .i64 (Vt.chk g.e)]) ∧ Below w.heap.size w w' := by
  have hb := (Below.refl w.heap.size w).alloc (Nat.le_refl _) (.cells #[.int .i64 g.e.k, .int .i32 g.e.r, .int .u8 (g.e.c.toNat : Int), .int .u8 (g.e.p.toNat : Int), .string (ba g.e.i), .slice g.A g.n g.c, .string (ba g.e.t)] 33)
  have CC := Lib.hid (refcheck_any g _ (h.below hb) hl)
  have HB := Lib.hid hb
  obtain ⟨⟨k, r, cc, p, i, ps, t⟩, A, n, c⟩ := g
  simp only at CC HB hne ⊢
  generalize Vt.chk ⟨k, r, cc, p, i, ps, t⟩ = q at CC hne ⊢
  have hq : (q != 0) = true := by simpa using hne
  clear hb h hne hl
  go_enter Tryd.func21, Tryd.ntmps21
  go_wp2_with fail
  refine CC.out.mono ?_
  rintro e w1 ⟨rfl, b1⟩
  go_wp2
  go_ret2
  exact ⟨rfl, HB.out.trans (b1.mono HB.out.size)⟩

set_option maxHeartbeats 2000000 in
set_option maxRecDepth 100000 in
theorem refenc_1 (r : Int) (cc p : UInt8) (i : List UInt8) (ps : List Int) (t : List UInt8) (A : Option Addr) (n c : Nat) (w : World) (h : EvOk w ⟨⟨1, r, cc, p, i, ps, t⟩, A, n, c⟩) (hl : long ⟨⟨1, r, cc, p, i, ps, t⟩, A, n, c⟩ = false) (hr : -2147483648 ≤ r ∧ r ≤ 2147483647) (h0 : Vt.chk ⟨1, r, cc, p, i, ps, t⟩ = 0) :
    Calls Tryd.prog 21 #[.agg #[.int .i64 1, .int .i32 r, .int .u8 (cc.toNat : Int), .int .u8 (p.toNat : Int), .string (ba i), .slice A n c, .string (ba t)]] w fun x w' => x = .returned (.tuple #[.string (ba (Vt.enc ⟨1, r, cc, p, i, ps, t⟩)), .int .i64 0]) ∧ Below w.heap.size w w' := by
  have hb := (Below.refl w.heap.size w).alloc (Nat.le_refl _) (.cells #[.int .i64 1, .int .i32 r, .int .u8 (cc.toNat : Int), .int .u8 (p.toNat : Int), .string (ba i), .slice A n c, .string (ba t)] 33)
  have cC := refcheck_any ⟨⟨1, r, cc, p, i, ps, t⟩, A, n, c⟩ _ (h.below hb) hl
  rw [h0] at cC
  have CC := Lib.hid cC
  have HB := Lib.hid hb
  have HK := Lib.hid (Ek.laid w #[.int .i64 1, .int .i32 r, .int .u8 (cc.toNat : Int), .int .u8 (p.toNat : Int), .string (ba i), .slice A n c, .string (ba t)])
  have hsh := short_of hl
  simp only at hsh
  have HE : Hid (Vt.enc ⟨1, r, cc, p, i, ps, t⟩ = U8.enc1 r) := Lib.hid (by rfl)
  clear cC hb h0 hl
  go_enter Tryd.func21, Tryd.ntmps21
  go_wp2_with fail
  refine CC.out.mono ?_
  rintro e w1 ⟨rfl, b1⟩
  have K1 := Lib.hid (HK.out.below b1)
  have HB1 := Lib.hid (HB.out.trans (b1.mono HB.out.size))
  have K2 := Lib.hid (K1.out.alloc (.cells #[.int .u8 (cc.toNat : Int)] 5))
  have HB2 := Lib.hid (HB1.out.alloc HB1.out.size (.cells #[.int .u8 (cc.toNat : Int)] 5))
  have f2 : w1.cell? ⟨w.heap.size, 2, none⟩ = some (.int .u8 (cc.toNat : Int)) := K1.out.cell 2
  have hcv := u8_string w1 _ rfl cc
  clear CC HK HB b1
  have g0 : (w1.alloc (.cells #[.int .u8 (cc.toNat : Int)] 5)).cell? ⟨w.heap.size, 0, none⟩ = some (.int .i64 1) := K2.out.cell 0
  have g1 : (w1.alloc (.cells #[.int .u8 (cc.toNat : Int)] 5)).cell? ⟨w.heap.size, 1, none⟩ = some (.int .i32 r) := K2.out.cell 1
  have g2 : (w1.alloc (.cells #[.int .u8 (cc.toNat : Int)] 5)).cell? ⟨w.heap.size, 2, none⟩ = some (.int .u8 (cc.toNat : Int)) := K2.out.cell 2
  have g3 : (w1.alloc (.cells #[.int .u8 (cc.toNat : Int)] 5)).cell? ⟨w.heap.size, 3, none⟩ = some (.int .u8 (p.toNat : Int)) := K2.out.cell 3
  have g4 : (w1.alloc (.cells #[.int .u8 (cc.toNat : Int)] 5)).cell? ⟨w.heap.size, 4, none⟩ = some (.string (ba i)) := K2.out.cell 4
  have g5 : (w1.alloc (.cells #[.int .u8 (cc.toNat : Int)] 5)).cell? ⟨w.heap.size, 5, none⟩ = some (.slice A n c) := K2.out.cell 5
  have g6 : (w1.alloc (.cells #[.int .u8 (cc.toNat : Int)] 5)).cell? ⟨w.heap.size, 6, none⟩ = some (.string (ba t)) := K2.out.cell 6
  have cU := refencode_any (some ⟨w1.heap.size + 1, 0, none⟩) 1 1 (w1.heap.size + 1 + 1) [r] ((w1.alloc (.cells #[.int .u8 (cc.toNat : Int)] 5)).alloc (.cells #[.int .i32 r] 21)) (by have := nums_new (w1.alloc (.cells #[.int .u8 (cc.toNat : Int)] 5)) [r] 21 1 rfl; rw [World.size_alloc] at this; exact this) (by simp) (by decide) (fun z hz => by rw [List.mem_singleton] at hz; rw [hz]; exact hr)
  have hrb : runesBytes [r] = ba (U8.enc1 r) := by
    rw [← ba_of (runesBytes [r]), U8.bytes_encL]
    simp [U8.encL]
  rw [hrb] at cU
  have CU := Lib.hid cU
  generalize U8.enc1 r = l at CU HE
  clear hrb cU
  go_wp2_with fail
  refine CU.out.mono ?_
  rintro e w2 ⟨rfl, b2⟩
  have HB3 := Lib.hid (HB2.out.alloc HB2.out.size (.cells #[.int .i32 r] 21))
  clear CU
  go_wp2
  go_ret2
  rw [HE.out]
  exact ⟨rfl, HB3.out.trans (b2.mono HB3.out.size)⟩

set_option maxHeartbeats 2000000 in
set_option maxRecDepth 100000 in
theorem refenc_2 (r : Int) (cc p : UInt8) (i : List UInt8) (ps : List Int) (t : List UInt8) (A : Option Addr) (n c : Nat) (w : World) (h : EvOk w ⟨⟨2, r, cc, p, i, ps, t⟩, A, n, c⟩) (hl : long ⟨⟨2, r, cc, p, i, ps, t⟩, A, n, c⟩ = false) (h0 : Vt.chk ⟨2, r, cc, p, i, ps, t⟩ = 0) :
    Calls Tryd.prog 21 #[.agg #[.int .i64 2, .int .i32 r, .int .u8 (cc.toNat : Int), .int .u8 (p.toNat : Int), .string (ba i), .slice A n c, .string (ba t)]] w fun x w' => x = .returned (.tuple #[.string (ba (Vt.enc ⟨2, r, cc, p, i, ps, t⟩)), .int .i64 0]) ∧ Below w.heap.size w w' := by
  have hb := (Below.refl w.heap.size w).alloc (Nat.le_refl _) (.cells #[.int .i64 2, .int .i32 r, .int .u8 (cc.toNat : Int), .int .u8 (p.toNat : Int), .string (ba i), .slice A n c, .string (ba t)] 33)
  have cC := refcheck_any ⟨⟨2, r, cc, p, i, ps, t⟩, A, n, c⟩ _ (h.below hb) hl
  rw [h0] at cC
  have CC := Lib.hid cC
  have HB := Lib.hid hb
  have HK := Lib.hid (Ek.laid w #[.int .i64 2, .int .i32 r, .int .u8 (cc.toNat : Int), .int .u8 (p.toNat : Int), .string (ba i), .slice A n c, .string (ba t)])
  have hsh := short_of hl
  simp only at hsh
  have HE : Hid (Vt.enc ⟨2, r, cc, p, i, ps, t⟩ = [cc]) := Lib.hid (by rfl)
  clear cC hb h0 hl
  go_enter Tryd.func21, Tryd.ntmps21
  go_wp2_with fail
  refine CC.out.mono ?_
  rintro e w1 ⟨rfl, b1⟩
  have K1 := Lib.hid (HK.out.below b1)
  have HB1 := Lib.hid (HB.out.trans (b1.mono HB.out.size))
  have K2 := Lib.hid (K1.out.alloc (.cells #[.int .u8 (cc.toNat : Int)] 5))
  have HB2 := Lib.hid (HB1.out.alloc HB1.out.size (.cells #[.int .u8 (cc.toNat : Int)] 5))
  have f2 : w1.cell? ⟨w.heap.size, 2, none⟩ = some (.int .u8 (cc.toNat : Int)) := K1.out.cell 2
  have hcv := u8_string w1 _ rfl cc
  clear CC HK HB b1
  have g0 : (w1.alloc (.cells #[.int .u8 (cc.toNat : Int)] 5)).cell? ⟨w.heap.size, 0, none⟩ = some (.int .i64 2) := K2.out.cell 0
  have g1 : (w1.alloc (.cells #[.int .u8 (cc.toNat : Int)] 5)).cell? ⟨w.heap.size, 1, none⟩ = some (.int .i32 r) := K2.out.cell 1
  have g2 : (w1.alloc (.cells #[.int .u8 (cc.toNat : Int)] 5)).cell? ⟨w.heap.size, 2, none⟩ = some (.int .u8 (cc.toNat : Int)) := K2.out.cell 2
  have g3 : (w1.alloc (.cells #[.int .u8 (cc.toNat : Int)] 5)).cell? ⟨w.heap.size, 3, none⟩ = some (.int .u8 (p.toNat : Int)) := K2.out.cell 3
  have g4 : (w1.alloc (.cells #[.int .u8 (cc.toNat : Int)] 5)).cell? ⟨w.heap.size, 4, none⟩ = some (.string (ba i)) := K2.out.cell 4
  have g5 : (w1.alloc (.cells #[.int .u8 (cc.toNat : Int)] 5)).cell? ⟨w.heap.size, 5, none⟩ = some (.slice A n c) := K2.out.cell 5
  have g6 : (w1.alloc (.cells #[.int .u8 (cc.toNat : Int)] 5)).cell? ⟨w.heap.size, 6, none⟩ = some (.string (ba t)) := K2.out.cell 6
  go_wp2
  go_ret2
  rw [HE.out]
  exact ⟨rfl, HB2.out⟩

set_option maxHeartbeats 2000000 in
set_option maxRecDepth 100000 in
theorem refenc_3 (r : Int) (cc p : UInt8) (i : List UInt8) (ps : List Int) (t : List UInt8) (A : Option Addr) (n c : Nat) (w : World) (h : EvOk w ⟨⟨3, r, cc, p, i, ps, t⟩, A, n, c⟩) (hl : long ⟨⟨3, r, cc, p, i, ps, t⟩, A, n, c⟩ = false) (h0 : Vt.chk ⟨3, r, cc, p, i, ps, t⟩ = 0) :
    Calls Tryd.prog 21 #[.agg #[.int .i64 3, .int .i32 r, .int .u8 (cc.toNat : Int), .int .u8 (p.toNat : Int), .string (ba i), .slice A n c, .string (ba t)]] w fun x w' => x = .returned (.tuple #[.string (ba (Vt.enc ⟨3, r, cc, p, i, ps, t⟩)), .int .i64 0]) ∧ Below w.heap.size w w' := by
  have hb := (Below.refl w.heap.size w).alloc (Nat.le_refl _) (.cells #[.int .i64 3, .int .i32 r, .int .u8 (cc.toNat : Int), .int .u8 (p.toNat : Int), .string (ba i), .slice A n c, .string (ba t)] 33)
  have cC := refcheck_any ⟨⟨3, r, cc, p, i, ps, t⟩, A, n, c⟩ _ (h.below hb) hl
  rw [h0] at cC
  have CC := Lib.hid cC
  have HB := Lib.hid hb
  have HK := Lib.hid (Ek.laid w #[.int .i64 3, .int .i32 r, .int .u8 (cc.toNat : Int), .int .u8 (p.toNat : Int), .string (ba i), .slice A n c, .string (ba t)])
  have hsh := short_of hl
  simp only at hsh
  have HE : Hid (Vt.enc ⟨3, r, cc, p, i, ps, t⟩ = [27] ++ i ++ [cc]) := Lib.hid (by rfl)
  clear cC hb h0 hl
  go_enter Tryd.func21, Tryd.ntmps21
  go_wp2_with fail
  refine CC.out.mono ?_
  rintro e w1 ⟨rfl, b1⟩
  have K1 := Lib.hid (HK.out.below b1)
  have HB1 := Lib.hid (HB.out.trans (b1.mono HB.out.size))
  have K2 := Lib.hid (K1.out.alloc (.cells #[.int .u8 (cc.toNat : Int)] 5))
  have HB2 := Lib.hid (HB1.out.alloc HB1.out.size (.cells #[.int .u8 (cc.toNat : Int)] 5))
  have f2 : w1.cell? ⟨w.heap.size, 2, none⟩ = some (.int .u8 (cc.toNat : Int)) := K1.out.cell 2
  have hcv := u8_string w1 _ rfl cc
  clear CC HK HB b1
  have g0 : (w1.alloc (.cells #[.int .u8 (cc.toNat : Int)] 5)).cell? ⟨w.heap.size, 0, none⟩ = some (.int .i64 3) := K2.out.cell 0
  have g1 : (w1.alloc (.cells #[.int .u8 (cc.toNat : Int)] 5)).cell? ⟨w.heap.size, 1, none⟩ = some (.int .i32 r) := K2.out.cell 1
  have g2 : (w1.alloc (.cells #[.int .u8 (cc.toNat : Int)] 5)).cell? ⟨w.heap.size, 2, none⟩ = some (.int .u8 (cc.toNat : Int)) := K2.out.cell 2
  have g3 : (w1.alloc (.cells #[.int .u8 (cc.toNat : Int)] 5)).cell? ⟨w.heap.size, 3, none⟩ = some (.int .u8 (p.toNat : Int)) := K2.out.cell 3
  have g4 : (w1.alloc (.cells #[.int .u8 (cc.toNat : Int)] 5)).cell? ⟨w.heap.size, 4, none⟩ = some (.string (ba i)) := K2.out.cell 4
  have g5 : (w1.alloc (.cells #[.int .u8 (cc.toNat : Int)] 5)).cell? ⟨w.heap.size, 5, none⟩ = some (.slice A n c) := K2.out.cell 5
  have g6 : (w1.alloc (.cells #[.int .u8 (cc.toNat : Int)] 5)).cell? ⟨w.heap.size, 6, none⟩ = some (.string (ba t)) := K2.out.cell 6
  obtain ⟨m1, hm1⟩ : ∃ m, (⟨#[27]⟩ : ByteArray) ++ ba i = m := ⟨_, rfl⟩
  obtain ⟨m2, hm2⟩ : ∃ m, m1 ++ (ba [cc] : ByteArray) = m := ⟨_, rfl⟩
  have e1 : m1 = ba ([27] ++ i) := by rw [← hm1]; exact ba_app [27] i
  have HM : Hid (m2 = ba ([27] ++ i ++ [cc])) := Lib.hid (by rw [← hm2, e1]; exact ba_app ([27] ++ i) [cc])
  have z1 : (ba i).size ≤ 400 := by rw [ba_size]; omega
  have z2 : m1.size ≤ 402 := by rw [e1, ba_size, List.length_append]; simp; omega
  have s1 : ¬ 9223372036854775807 < 1 + (ba i).size := by omega
  have s1' : ¬ 9223372036854775807 < (⟨#[27]⟩ : ByteArray).size + (ba i).size := by
    have : (⟨#[27]⟩ : ByteArray).size = 1 := rfl
    omega
  have s2 : ¬ 9223372036854775807 < m1.size + (ba [cc]).size := by
    have : (ba [cc]).size = 1 := rfl
    omega
  clear e1
  go_wp2
  go_ret2
  rw [HE.out]
  exact ⟨by rw [HM.out]; rfl, HB2.out⟩

set_option maxHeartbeats 2000000 in
set_option maxRecDepth 100000 in
theorem refenc_4 (r : Int) (cc p : UInt8) (i : List UInt8) (ps : List Int) (t : List UInt8) (A : Option Addr) (n c : Nat) (w : World) (h : EvOk w ⟨⟨4, r, cc, p, i, ps, t⟩, A, n, c⟩) (hl : long ⟨⟨4, r, cc, p, i, ps, t⟩, A, n, c⟩ = false) (h0 : Vt.chk ⟨4, r, cc, p, i, ps, t⟩ = 0) :
    Calls Tryd.prog 21 #[.agg #[.int .i64 4, .int .i32 r, .int .u8 (cc.toNat : Int), .int .u8 (p.toNat : Int), .string (ba i), .slice A n c, .string (ba t)]] w fun x w' => x = .returned (.tuple #[.string (ba (Vt.enc ⟨4, r, cc, p, i, ps, t⟩)), .int .i64 0]) ∧ Below w.heap.size w w' := by
  have hb := (Below.refl w.heap.size w).alloc (Nat.le_refl _) (.cells #[.int .i64 4, .int .i32 r, .int .u8 (cc.toNat : Int), .int .u8 (p.toNat : Int), .string (ba i), .slice A n c, .string (ba t)] 33)
  have cC := refcheck_any ⟨⟨4, r, cc, p, i, ps, t⟩, A, n, c⟩ _ (h.below hb) hl
  rw [h0] at cC
  have CC := Lib.hid cC
  have HB := Lib.hid hb
  have HK := Lib.hid (Ek.laid w #[.int .i64 4, .int .i32 r, .int .u8 (cc.toNat : Int), .int .u8 (p.toNat : Int), .string (ba i), .slice A n c, .string (ba t)])
  have hsh := short_of hl
  simp only at hsh
  have HE : Hid (Vt.enc ⟨4, r, cc, p, i, ps, t⟩ = [27, 91] ++ (Cp.fmt p ps i).1 ++ [cc]) := Lib.hid (by rfl)
  obtain ⟨lx, hxe, _, hxl, _⟩ := Vt.seq_facts h0 rfl
  obtain ⟨l, er, hf⟩ : ∃ l er, Cp.fmt p ps i = (l, er) := ⟨_, _, rfl⟩
  have hll : l.length ≤ 200 := by
    have e1 : Vt.enc ⟨4, r, cc, p, i, ps, t⟩ = 27 :: 91 :: ((Cp.fmt p ps i).1 ++ [cc]) := rfl
    rw [e1, hf] at hxe
    have := congrArg List.length hxe
    simp at this
    omega
  rw [hf] at HE
  have HF := Lib.hid hf
  clear hxe hxl hf
  clear cC hb h0 hl
  go_enter Tryd.func21, Tryd.ntmps21
  go_wp2_with fail
  refine CC.out.mono ?_
  rintro e w1 ⟨rfl, b1⟩
  have K1 := Lib.hid (HK.out.below b1)
  have HB1 := Lib.hid (HB.out.trans (b1.mono HB.out.size))
  have K2 := Lib.hid (K1.out.alloc (.cells #[.int .u8 (cc.toNat : Int)] 5))
  have HB2 := Lib.hid (HB1.out.alloc HB1.out.size (.cells #[.int .u8 (cc.toNat : Int)] 5))
  have f2 : w1.cell? ⟨w.heap.size, 2, none⟩ = some (.int .u8 (cc.toNat : Int)) := K1.out.cell 2
  have hcv := u8_string w1 _ rfl cc
  clear CC HK HB b1
  have g0 : (w1.alloc (.cells #[.int .u8 (cc.toNat : Int)] 5)).cell? ⟨w.heap.size, 0, none⟩ = some (.int .i64 4) := K2.out.cell 0
  have g1 : (w1.alloc (.cells #[.int .u8 (cc.toNat : Int)] 5)).cell? ⟨w.heap.size, 1, none⟩ = some (.int .i32 r) := K2.out.cell 1
  have g2 : (w1.alloc (.cells #[.int .u8 (cc.toNat : Int)] 5)).cell? ⟨w.heap.size, 2, none⟩ = some (.int .u8 (cc.toNat : Int)) := K2.out.cell 2
  have g3 : (w1.alloc (.cells #[.int .u8 (cc.toNat : Int)] 5)).cell? ⟨w.heap.size, 3, none⟩ = some (.int .u8 (p.toNat : Int)) := K2.out.cell 3
  have g4 : (w1.alloc (.cells #[.int .u8 (cc.toNat : Int)] 5)).cell? ⟨w.heap.size, 4, none⟩ = some (.string (ba i)) := K2.out.cell 4
  have g5 : (w1.alloc (.cells #[.int .u8 (cc.toNat : Int)] 5)).cell? ⟨w.heap.size, 5, none⟩ = some (.slice A n c) := K2.out.cell 5
  have g6 : (w1.alloc (.cells #[.int .u8 (cc.toNat : Int)] 5)).cell? ⟨w.heap.size, 6, none⟩ = some (.string (ba t)) := K2.out.cell 6
  obtain ⟨m1, hm1⟩ : ∃ m, (⟨#[27, 91]⟩ : ByteArray) ++ ba l = m := ⟨_, rfl⟩
  obtain ⟨m2, hm2⟩ : ∃ m, m1 ++ (ba [cc] : ByteArray) = m := ⟨_, rfl⟩
  have e1 : m1 = ba ([27, 91] ++ l) := by rw [← hm1]; exact ba_app [27, 91] l
  have HM : Hid (m2 = ba ([27, 91] ++ l ++ [cc])) := Lib.hid (by rw [← hm2, e1]; exact ba_app ([27, 91] ++ l) [cc])
  have z1 : (ba l).size ≤ 400 := by rw [ba_size]; omega
  have z2 : m1.size ≤ 402 := by rw [e1, ba_size, List.length_append]; simp; omega
  have s1 : ¬ 9223372036854775807 < 2 + (ba l).size := by omega
  have s1' : ¬ 9223372036854775807 < (⟨#[27, 91]⟩ : ByteArray).size + (ba l).size := by
    have : (⟨#[27, 91]⟩ : ByteArray).size = 2 := rfl
    omega
  have s2 : ¬ 9223372036854775807 < m1.size + (ba [cc]).size := by
    have : (ba [cc]).size = 1 := rfl
    omega
  clear e1
  have CF := Lib.hid (Ci.refformat_any p A n c _ ps (ba i) (w1.alloc (.cells #[.int .u8 (cc.toNat : Int)] 5)) (Nat.le_refl _) (h.below HB2.out).1 (by omega) (by rw [ba_size]; omega) h.2.2.2.2 (l := l) (er := er) (by rw [ba_list]; exact HF.out))
  go_wp2_with fail
  refine CF.out.mono ?_
  rintro e w2 ⟨x, rfl, hx, b2⟩
  obtain rfl : x = ba l := by rw [← hx, ba_of]
  have HB3 := Lib.hid (HB2.out.trans (b2.mono HB2.out.size))
  clear CF hx b2
  go_wp2
  go_ret2
  rw [HE.out]
  exact ⟨by rw [HM.out]; rfl, HB3.out⟩

set_option maxHeartbeats 2000000 in
set_option maxRecDepth 100000 in
theorem refenc_5 (r : Int) (cc p : UInt8) (i : List UInt8) (ps : List Int) (t : List UInt8) (A : Option Addr) (n c : Nat) (w : World) (h : EvOk w ⟨⟨5, r, cc, p, i, ps, t⟩, A, n, c⟩) (hl : long ⟨⟨5, r, cc, p, i, ps, t⟩, A, n, c⟩ = false) (h0 : Vt.chk ⟨5, r, cc, p, i, ps, t⟩ = 0) :
    Calls Tryd.prog 21 #[.agg #[.int .i64 5, .int .i32 r, .int .u8 (cc.toNat : Int), .int .u8 (p.toNat : Int), .string (ba i), .slice A n c, .string (ba t)]] w fun x w' => x = .returned (.tuple #[.string (ba (Vt.enc ⟨5, r, cc, p, i, ps, t⟩)), .int .i64 0]) ∧ Below w.heap.size w w' := by
  have hb := (Below.refl w.heap.size w).alloc (Nat.le_refl _) (.cells #[.int .i64 5, .int .i32 r, .int .u8 (cc.toNat : Int), .int .u8 (p.toNat : Int), .string (ba i), .slice A n c, .string (ba t)] 33)
  have cC := refcheck_any ⟨⟨5, r, cc, p, i, ps, t⟩, A, n, c⟩ _ (h.below hb) hl
  rw [h0] at cC
  have CC := Lib.hid cC
  have HB := Lib.hid hb
  have HK := Lib.hid (Ek.laid w #[.int .i64 5, .int .i32 r, .int .u8 (cc.toNat : Int), .int .u8 (p.toNat : Int), .string (ba i), .slice A n c, .string (ba t)])
  have hsh := short_of hl
  simp only at hsh
  have HE : Hid (Vt.enc ⟨5, r, cc, p, i, ps, t⟩ = [27, 93] ++ t ++ [7]) := Lib.hid (by rfl)
  clear cC hb h0 hl
  go_enter Tryd.func21, Tryd.ntmps21
  go_wp2_with fail
  refine CC.out.mono ?_
  rintro e w1 ⟨rfl, b1⟩
  have K1 := Lib.hid (HK.out.below b1)
  have HB1 := Lib.hid (HB.out.trans (b1.mono HB.out.size))
  have K2 := Lib.hid (K1.out.alloc (.cells #[.int .u8 (cc.toNat : Int)] 5))
  have HB2 := Lib.hid (HB1.out.alloc HB1.out.size (.cells #[.int .u8 (cc.toNat : Int)] 5))
  have f2 : w1.cell? ⟨w.heap.size, 2, none⟩ = some (.int .u8 (cc.toNat : Int)) := K1.out.cell 2
  have hcv := u8_string w1 _ rfl cc
  clear CC HK HB b1
  have g0 : (w1.alloc (.cells #[.int .u8 (cc.toNat : Int)] 5)).cell? ⟨w.heap.size, 0, none⟩ = some (.int .i64 5) := K2.out.cell 0
  have g1 : (w1.alloc (.cells #[.int .u8 (cc.toNat : Int)] 5)).cell? ⟨w.heap.size, 1, none⟩ = some (.int .i32 r) := K2.out.cell 1
  have g2 : (w1.alloc (.cells #[.int .u8 (cc.toNat : Int)] 5)).cell? ⟨w.heap.size, 2, none⟩ = some (.int .u8 (cc.toNat : Int)) := K2.out.cell 2
  have g3 : (w1.alloc (.cells #[.int .u8 (cc.toNat : Int)] 5)).cell? ⟨w.heap.size, 3, none⟩ = some (.int .u8 (p.toNat : Int)) := K2.out.cell 3
  have g4 : (w1.alloc (.cells #[.int .u8 (cc.toNat : Int)] 5)).cell? ⟨w.heap.size, 4, none⟩ = some (.string (ba i)) := K2.out.cell 4
  have g5 : (w1.alloc (.cells #[.int .u8 (cc.toNat : Int)] 5)).cell? ⟨w.heap.size, 5, none⟩ = some (.slice A n c) := K2.out.cell 5
  have g6 : (w1.alloc (.cells #[.int .u8 (cc.toNat : Int)] 5)).cell? ⟨w.heap.size, 6, none⟩ = some (.string (ba t)) := K2.out.cell 6
  obtain ⟨m1, hm1⟩ : ∃ m, (⟨#[27, 93]⟩ : ByteArray) ++ ba t = m := ⟨_, rfl⟩
  obtain ⟨m2, hm2⟩ : ∃ m, m1 ++ (⟨#[7]⟩ : ByteArray) = m := ⟨_, rfl⟩
  have e1 : m1 = ba ([27, 93] ++ t) := by rw [← hm1]; exact ba_app [27, 93] t
  have HM : Hid (m2 = ba ([27, 93] ++ t ++ [7])) := Lib.hid (by rw [← hm2, e1]; exact ba_app ([27, 93] ++ t) [7])
  have z1 : (ba t).size ≤ 400 := by rw [ba_size]; omega
  have z2 : m1.size ≤ 402 := by rw [e1, ba_size, List.length_append]; simp; omega
  have s1 : ¬ 9223372036854775807 < 2 + (ba t).size := by omega
  have s1' : ¬ 9223372036854775807 < (⟨#[27, 93]⟩ : ByteArray).size + (ba t).size := by
    have : (⟨#[27, 93]⟩ : ByteArray).size = 2 := rfl
    omega
  have s2 : ¬ 9223372036854775807 < m1.size + 1 := by omega
  have s2' : ¬ 9223372036854775807 < m1.size + (⟨#[7]⟩ : ByteArray).size := by
    have : (⟨#[7]⟩ : ByteArray).size = 1 := rfl
    omega
  clear e1
  go_wp2
  go_ret2
  rw [HE.out]
  exact ⟨by rw [HM.out]; rfl, HB2.out⟩

/-- What Encode of the document's own answers returns. -/
theorem refenc_ev (g : G) (w : World) (h : EvOk w g) (hl : long g = false) :
    Calls Tryd.prog 21 #[.agg #[.int .i64 g.e.k, .int .i32 g.e.r, .int .u8 (g.e.c.toNat : Int), .int .u8 (g.e.p.toNat : Int), .string (ba g.e.i), .slice g.A g.n g.c, .string (ba g.e.t)]] w fun x w' => x = .returned (.tuple #[.string (ba (Vt.encode g.e).1), .int .i64 (Vt.encode g.e).2]) ∧ Below w.heap.size w w' := by
  by_cases h0 : Vt.chk g.e = 0
  · have e : Vt.encode g.e = (Vt.enc g.e, 0) := by unfold Vt.encode; rw [if_pos h0]
    rw [e]
    have hk := (Vt.chk_of h0).1
    have hf := (Vt.chk_of h0).2.1
    obtain ⟨⟨k, r, cc, p, i, ps, t⟩, A, n, c⟩ := g
    simp only at hk h0 hf ⊢
    obtain rfl | rfl | rfl | rfl | rfl : k = 1 ∨ k = 2 ∨ k = 3 ∨ k = 4 ∨ k = 5 := by omega
    · have hp : Vt.printed r = true := hf
      refine refenc_1 r cc p i ps t A n c w h hl ?_ h0
      unfold Vt.printed at hp
      simp only [Bool.and_eq_true, decide_eq_true_eq] at hp
      omega
    · exact refenc_2 r cc p i ps t A n c w h hl h0
    · exact refenc_3 r cc p i ps t A n c w h hl h0
    · exact refenc_4 r cc p i ps t A n c w h hl h0
    · exact refenc_5 r cc p i ps t A n c w h hl h0
  · have e : Vt.encode g.e = ([], Vt.chk g.e) := by unfold Vt.encode; rw [if_neg h0]
    rw [e]
    exact refenc_bad g w h hl h0

end Go.Proofs.YtckknodckiljkaaDoor

namespace Go.Proofs.YtckknodckiljkaaDoor
open Go.RowKit

set_option maxHeartbeats 4000000 in
set_option maxRecDepth 100000 in
theorem encode_walk (g : G) (w : World) (hE : EvOk w g) (hTP : Lib.Utf8Tabs 0 1 w ∧ Ci.Pw w) :
    Calls Tryd.prog 4 #[.agg #[.int .i64 g.e.k, .int .i32 g.e.r, .int .u8 (g.e.c.toNat : Int), .int .u8 (g.e.p.toNat : Int), .string (ba g.e.i), .slice g.A g.n g.c, .string (ba g.e.t)]] w fun e w' => e = .returned (.bool true) ∧ Below w.heap.size w w' := by
  have hT := Lib.hid hTP.1
  have HP := Lib.hid hTP.2
  have HEV := Lib.hid hE
  have hb := (Below.refl w.heap.size w).alloc (Nat.le_refl _) (.cells #[.int .i64 g.e.k, .int .i32 g.e.r, .int .u8 (g.e.c.toNat : Int), .int .u8 (g.e.p.toNat : Int), .string (ba g.e.i), .slice g.A g.n g.c, .string (ba g.e.t)] 33)
  have B0 := Lib.hid hb
  have K0 := Lib.hid (Ek.laid w #[.int .i64 g.e.k, .int .i32 g.e.r, .int .u8 (g.e.c.toNat : Int), .int .u8 (g.e.p.toNat : Int), .string (ba g.e.i), .slice g.A g.n g.c, .string (ba g.e.t)])
  obtain ⟨q, hq⟩ : ∃ q, long g = q := ⟨_, rfl⟩
  have CL := fun W => long_any g W
  rw [hq] at CL
  have CL := Lib.hid CL
  have HQ := Lib.hid hq
  clear hTP hE hb hq
  go_enter Tryd.func4, Tryd.ntmps4
  go_wp2_with fail
  refine (CL.out _).mono ?_
  rintro e w1 ⟨rfl, b1⟩
  have B1 := Lib.hid (B0.out.trans (b1.mono B0.out.size))
  have K1 := Lib.hid (K0.out.below b1)
  clear CL B0 K0 b1
  cases q
  rotate_left
  · skip
    have CA := Lib.hid (awake_true w1 (Utf8Tabs_below hT.out B1.out))
    go_wp2_with fail
    refine CA.out.mono ?_
    rintro e wz ⟨rfl, bz⟩
    go_wp2
    go_ret
    exact ⟨rfl, B1.out.trans (bz.mono B1.out.size)⟩
  have u0 : w1.cell? ⟨w.heap.size, 0, none⟩ = some (.int .i64 g.e.k) := K1.out.cell 0
  have u1 : w1.cell? ⟨w.heap.size, 1, none⟩ = some (.int .i32 g.e.r) := K1.out.cell 1
  have u2 : w1.cell? ⟨w.heap.size, 2, none⟩ = some (.int .u8 (g.e.c.toNat : Int)) := K1.out.cell 2
  have u3 : w1.cell? ⟨w.heap.size, 3, none⟩ = some (.int .u8 (g.e.p.toNat : Int)) := K1.out.cell 3
  have u4 : w1.cell? ⟨w.heap.size, 4, none⟩ = some (.string (ba g.e.i)) := K1.out.cell 4
  have u5 : w1.cell? ⟨w.heap.size, 5, none⟩ = some (.slice g.A g.n g.c) := K1.out.cell 5
  have u6 : w1.cell? ⟨w.heap.size, 6, none⟩ = some (.string (ba g.e.t)) := K1.out.cell 6
  obtain ⟨r1, hr1⟩ : ∃ r, Vt.encode g.e = r := ⟨_, rfl⟩
  have C1 := encode_ev g w1 (HEV.out.below B1.out) (HP.out.below B1.out)
  have C2 := fun W hW => refenc_ev g W hW HQ.out
  rw [hr1] at C1 C2
  obtain ⟨s, f⟩ := r1
  simp only at C1 C2
  generalize ba s = X at C1 C2
  have C1 := Lib.hid C1
  have C2 := Lib.hid C2
  clear hr1
  go_wp2_with fail
  refine C1.out.mono ?_
  rintro e w2 ⟨rfl, b2⟩
  have B2 := Lib.hid (B1.out.trans (b2.mono B1.out.size))
  have K2 := Lib.hid (K1.out.below b2)
  clear C1 B1 K1 b2 u0 u1 u2 u3 u4 u5 u6
  have u0 : w2.cell? ⟨w.heap.size, 0, none⟩ = some (.int .i64 g.e.k) := K2.out.cell 0
  have u1 : w2.cell? ⟨w.heap.size, 1, none⟩ = some (.int .i32 g.e.r) := K2.out.cell 1
  have u2 : w2.cell? ⟨w.heap.size, 2, none⟩ = some (.int .u8 (g.e.c.toNat : Int)) := K2.out.cell 2
  have u3 : w2.cell? ⟨w.heap.size, 3, none⟩ = some (.int .u8 (g.e.p.toNat : Int)) := K2.out.cell 3
  have u4 : w2.cell? ⟨w.heap.size, 4, none⟩ = some (.string (ba g.e.i)) := K2.out.cell 4
  have u5 : w2.cell? ⟨w.heap.size, 5, none⟩ = some (.slice g.A g.n g.c) := K2.out.cell 5
  have u6 : w2.cell? ⟨w.heap.size, 6, none⟩ = some (.string (ba g.e.t)) := K2.out.cell 6
  go_wp2_with fail
  refine (C2.out _ (HEV.out.below B2.out)).mono ?_
  rintro e w3 ⟨rfl, b3⟩
  have B3 := Lib.hid (B2.out.trans (b3.mono B2.out.size))
  have K3 := Lib.hid (K2.out.below b3)
  clear C2 B2 K2 b3 u0 u1 u2 u3 u4 u5 u6
  have keep : ∀ {W W' : World}, (W.cell? ⟨w.heap.size, 0, none⟩ = some (.int .i64 g.e.k) ∧ W.cell? ⟨w.heap.size, 1, none⟩ = some (.int .i32 g.e.r) ∧ W.cell? ⟨w.heap.size, 2, none⟩ = some (.int .u8 (g.e.c.toNat : Int)) ∧ W.cell? ⟨w.heap.size, 3, none⟩ = some (.int .u8 (g.e.p.toNat : Int)) ∧ W.cell? ⟨w.heap.size, 4, none⟩ = some (.string (ba g.e.i)) ∧ W.cell? ⟨w.heap.size, 5, none⟩ = some (.slice g.A g.n g.c) ∧ W.cell? ⟨w.heap.size, 6, none⟩ = some (.string (ba g.e.t)) ∧ Aside (Below w.heap.size w W ∧ Ek W w.heap.size #[.int .i64 g.e.k, .int .i32 g.e.r, .int .u8 (g.e.c.toNat : Int), .int .u8 (g.e.p.toNat : Int), .string (ba g.e.i), .slice g.A g.n g.c, .string (ba g.e.t)])) → Below W.heap.size W W' → (W'.cell? ⟨w.heap.size, 0, none⟩ = some (.int .i64 g.e.k) ∧ W'.cell? ⟨w.heap.size, 1, none⟩ = some (.int .i32 g.e.r) ∧ W'.cell? ⟨w.heap.size, 2, none⟩ = some (.int .u8 (g.e.c.toNat : Int)) ∧ W'.cell? ⟨w.heap.size, 3, none⟩ = some (.int .u8 (g.e.p.toNat : Int)) ∧ W'.cell? ⟨w.heap.size, 4, none⟩ = some (.string (ba g.e.i)) ∧ W'.cell? ⟨w.heap.size, 5, none⟩ = some (.slice g.A g.n g.c) ∧ W'.cell? ⟨w.heap.size, 6, none⟩ = some (.string (ba g.e.t)) ∧ Aside (Below w.heap.size w W' ∧ Ek W' w.heap.size #[.int .i64 g.e.k, .int .i32 g.e.r, .int .u8 (g.e.c.toNat : Int), .int .u8 (g.e.p.toNat : Int), .string (ba g.e.i), .slice g.A g.n g.c, .string (ba g.e.t)])) := by
    intro W W' h hb
    obtain ⟨_, _, _, _, _, _, _, hA⟩ := h
    have k := hA.out.2.below hb
    exact ⟨k.cell 0, k.cell 1, k.cell 2, k.cell 3, k.cell 4, k.cell 5, k.cell 6, hA.out.1.trans (hb.mono hA.out.1.size), k⟩
  have hcC : ∀ W : World, (W.cell? ⟨w.heap.size, 0, none⟩ = some (.int .i64 g.e.k) ∧ W.cell? ⟨w.heap.size, 1, none⟩ = some (.int .i32 g.e.r) ∧ W.cell? ⟨w.heap.size, 2, none⟩ = some (.int .u8 (g.e.c.toNat : Int)) ∧ W.cell? ⟨w.heap.size, 3, none⟩ = some (.int .u8 (g.e.p.toNat : Int)) ∧ W.cell? ⟨w.heap.size, 4, none⟩ = some (.string (ba g.e.i)) ∧ W.cell? ⟨w.heap.size, 5, none⟩ = some (.slice g.A g.n g.c) ∧ W.cell? ⟨w.heap.size, 6, none⟩ = some (.string (ba g.e.t)) ∧ Aside (Below w.heap.size w W ∧ Ek W w.heap.size #[.int .i64 g.e.k, .int .i32 g.e.r, .int .u8 (g.e.c.toNat : Int), .int .u8 (g.e.p.toNat : Int), .string (ba g.e.i), .slice g.A g.n g.c, .string (ba g.e.t)])) → Calls Tryd.prog 22 #[.agg #[.int .i64 g.e.k, .int .i32 g.e.r, .int .u8 (g.e.c.toNat : Int), .int .u8 (g.e.p.toNat : Int), .string (ba g.e.i), .slice g.A g.n g.c, .string (ba g.e.t)]] W fun x w' => x = .returned (.int .i64 (Vt.chk g.e)) ∧ Below W.heap.size W w' := fun W h => check_any g W (HEV.out.below h.2.2.2.2.2.2.2.out.1) (HP.out.below h.2.2.2.2.2.2.2.out.1)
  have hcR : ∀ W : World, (W.cell? ⟨w.heap.size, 0, none⟩ = some (.int .i64 g.e.k) ∧ W.cell? ⟨w.heap.size, 1, none⟩ = some (.int .i32 g.e.r) ∧ W.cell? ⟨w.heap.size, 2, none⟩ = some (.int .u8 (g.e.c.toNat : Int)) ∧ W.cell? ⟨w.heap.size, 3, none⟩ = some (.int .u8 (g.e.p.toNat : Int)) ∧ W.cell? ⟨w.heap.size, 4, none⟩ = some (.string (ba g.e.i)) ∧ W.cell? ⟨w.heap.size, 5, none⟩ = some (.slice g.A g.n g.c) ∧ W.cell? ⟨w.heap.size, 6, none⟩ = some (.string (ba g.e.t)) ∧ Aside (Below w.heap.size w W ∧ Ek W w.heap.size #[.int .i64 g.e.k, .int .i32 g.e.r, .int .u8 (g.e.c.toNat : Int), .int .u8 (g.e.p.toNat : Int), .string (ba g.e.i), .slice g.A g.n g.c, .string (ba g.e.t)])) → Calls Tryd.prog 23 #[.agg #[.int .i64 g.e.k, .int .i32 g.e.r, .int .u8 (g.e.c.toNat : Int), .int .u8 (g.e.p.toNat : Int), .string (ba g.e.i), .slice g.A g.n g.c, .string (ba g.e.t)]] W fun x w' => x = .returned (.int .i64 (Vt.chk g.e)) ∧ Below W.heap.size W w' := fun W h => refcheck_any g W (HEV.out.below h.2.2.2.2.2.2.2.out.1) HQ.out
  have hcA : ∀ W : World, (W.cell? ⟨w.heap.size, 0, none⟩ = some (.int .i64 g.e.k) ∧ W.cell? ⟨w.heap.size, 1, none⟩ = some (.int .i32 g.e.r) ∧ W.cell? ⟨w.heap.size, 2, none⟩ = some (.int .u8 (g.e.c.toNat : Int)) ∧ W.cell? ⟨w.heap.size, 3, none⟩ = some (.int .u8 (g.e.p.toNat : Int)) ∧ W.cell? ⟨w.heap.size, 4, none⟩ = some (.string (ba g.e.i)) ∧ W.cell? ⟨w.heap.size, 5, none⟩ = some (.slice g.A g.n g.c) ∧ W.cell? ⟨w.heap.size, 6, none⟩ = some (.string (ba g.e.t)) ∧ Aside (Below w.heap.size w W ∧ Ek W w.heap.size #[.int .i64 g.e.k, .int .i32 g.e.r, .int .u8 (g.e.c.toNat : Int), .int .u8 (g.e.p.toNat : Int), .string (ba g.e.i), .slice g.A g.n g.c, .string (ba g.e.t)])) → Calls Tryd.prog 13 #[] W fun x w' => x = .returned (.bool true) ∧ Below W.heap.size W w' := fun W h => awake_true W (Utf8Tabs_below hT.out h.2.2.2.2.2.2.2.out.1)
  generalize Vt.chk g.e = ec at hcC hcR
  go_wp2_with fail
  have k3 := K3.out.below (Below.refl w3.heap.size w3).drew
  have hS3 : w3.drew.cell? ⟨w.heap.size, 0, none⟩ = some (.int .i64 g.e.k) ∧ w3.drew.cell? ⟨w.heap.size, 1, none⟩ = some (.int .i32 g.e.r) ∧ w3.drew.cell? ⟨w.heap.size, 2, none⟩ = some (.int .u8 (g.e.c.toNat : Int)) ∧ w3.drew.cell? ⟨w.heap.size, 3, none⟩ = some (.int .u8 (g.e.p.toNat : Int)) ∧ w3.drew.cell? ⟨w.heap.size, 4, none⟩ = some (.string (ba g.e.i)) ∧ w3.drew.cell? ⟨w.heap.size, 5, none⟩ = some (.slice g.A g.n g.c) ∧ w3.drew.cell? ⟨w.heap.size, 6, none⟩ = some (.string (ba g.e.t)) ∧ Aside (Below w.heap.size w w3.drew ∧ Ek w3.drew w.heap.size #[.int .i64 g.e.k, .int .i32 g.e.r, .int .u8 (g.e.c.toNat : Int), .int .u8 (g.e.p.toNat : Int), .string (ba g.e.i), .slice g.A g.n g.c, .string (ba g.e.t)]) := ⟨k3.cell 0, k3.cell 1, k3.cell 2, k3.cell 3, k3.cell 4, k3.cell 5, k3.cell 6, B3.out.drew, k3⟩
  clear B3 K3 k3
  go_region_held3 (fun W => W.cell? ⟨w.heap.size, 0, none⟩ = some (.int .i64 g.e.k) ∧ W.cell? ⟨w.heap.size, 1, none⟩ = some (.int .i32 g.e.r) ∧ W.cell? ⟨w.heap.size, 2, none⟩ = some (.int .u8 (g.e.c.toNat : Int)) ∧ W.cell? ⟨w.heap.size, 3, none⟩ = some (.int .u8 (g.e.p.toNat : Int)) ∧ W.cell? ⟨w.heap.size, 4, none⟩ = some (.string (ba g.e.i)) ∧ W.cell? ⟨w.heap.size, 5, none⟩ = some (.slice g.A g.n g.c) ∧ W.cell? ⟨w.heap.size, 6, none⟩ = some (.string (ba g.e.t)) ∧ Aside (Below w.heap.size w W ∧ Ek W w.heap.size #[.int .i64 g.e.k, .int .i32 g.e.r, .int .u8 (g.e.c.toNat : Int), .int .u8 (g.e.p.toNat : Int), .string (ba g.e.i), .slice g.A g.n g.c, .string (ba g.e.t)]))
    (assumption)
    (first | (go_at_call 22; refine (hcC _ (by assumption)).mono ?_; rintro e w' ⟨rfl, hb'⟩; have hs' := keep (by assumption) hb') | (go_at_call 23; refine (hcR _ (by assumption)).mono ?_; rintro e w' ⟨rfl, hb'⟩; have hs' := keep (by assumption) hb') | (go_at_call 13; refine (hcA _ (by assumption)).mono ?_; rintro e w' ⟨rfl, hb'⟩; have hs' := keep (by assumption) hb'))
  go_wp2
  go_ret
  exact ⟨rfl, hs'.2.2.2.2.2.2.2.out.1⟩

end Go.Proofs.YtckknodckiljkaaDoor

namespace Go.Proofs.YtckknodckiljkaaDoor.encodeLaw
open Go.ChangeShapes Go.WideShapes Go.ChangeAt Go.RowKit

set_option maxRecDepth 100000 in
theorem contract (H : Type) (enc : TypeId × Value → H) (W : World) (base : Nat) (args : Array Value) (ds gs : List (DataW H)) (before : List MemPlace)
    (hval : ∀ (j : Nat) t v, Tryd.f4.params[j]? = some t → args[j]? = some v → Value.okWide Tryd.prog W .any base t v)
    (hW : DataW.Whole enc Tryd.prog Tryd.f4.params.toList Rows.vtparseEncodeSpec.vars false W args.toList ds gs before) (hL : laidMetH Tryd.prog Rows.vtparseEncodeRow.laid W) :
    Calls Tryd.prog 4 args W fun e W' => ∃ v, e = .returned v ∧ Rows.vtparseEncodeSpec.post enc Tryd.prog Tryd.f4 false true false false W args v W' := by
  have hW' := hW
  obtain ⟨p, q, hA0, hV, rfl, _, _⟩ := hW
  have hA : DataW.TrodAll enc Tryd.prog W 0 (fun _ => true) true Tryd.f4.params.toList args.toList ds p := hA0
  rw [Tryd.params4] at hA hval
  obtain ⟨v0, vs0, d0, ds0, p0, q0, hargs, rfl, rfl, h0, r0⟩ := trodAll_cons hA
  obtain ⟨rfl, rfl, rfl⟩ := trodAll_nil r0
  obtain rfl : args = #[v0] := by cases args; simp_all
  obtain ⟨rfl, rfl⟩ := trodVars_none hV
  obtain ⟨x0, rfl, w0⟩ := open_event (hval 0 33 v0 rfl rfl) h0
  have lt0 : ∀ x ∈ p0, x.block < W.heap.size := by obtain ⟨m, hm⟩ := h0; exact DataW.trod_lt m _ _ _ hm
  clear hA0
  refine (encode_walk x0 W w0 (tabs5 hL)).mono fun e W' ⟨he, bel⟩ => ?_
  subst he
  exact ⟨_, rfl, _, _, _, [], _, [], hW', trodAll_mk1 (shut_bool Tryd.underlying4 _), (trodAll_cons_mk (Below.trod laidOut (by kernel_rfl) (of_decide_eq_true (by kernel_rfl)) h0 bel lt0) trodAll_mk0), rfl, bel.frame _, fun h => by cases h⟩

theorem reads (os : Os) {H : Type} (enc : TypeId × Value → H) : ∃ places, DataW.whole enc Tryd.prog ((laidWorld5 os).forCall (fun _ _ => 0) ⟨#[], #[.agg #[.int .i64 0, .int .i32 0, .int .u8 0, .int .u8 0, .string ⟨#[]⟩, .slice none 0 0, .string ⟨#[]⟩]], []⟩).memory Tryd.f4.params.toList Rows.vtparseEncodeSpec.vars false #[Value.agg #[.int .i64 0, .int .i32 0, .int .u8 0, .int .u8 0, .string ⟨#[]⟩, .slice none 0 0, .string ⟨#[]⟩]].toList 8 = some ([.agg [.lit (.int .i64 0), .lit (.int .i32 0), .lit (.int .u8 0), .lit (.int .u8 0), .lit (.string []), .nil, .lit (.string [])]], [], places) :=
  ⟨[], by kernel_rfl⟩

set_option maxRecDepth 100000 in
theorem lifted (os : Os) (started : os.Started) (H : Type) (enc : TypeId × Value → H) (F : Stop.Interp) :
    ReturnsInHanded {} Tryd.checked os 4 .any ((OpenSpec.ofChange Rows.vtparseEncodeSpec).preRow enc Tryd.prog Tryd.f4 Rows.vtparseEncodeRow.domain false Rows.vtparseEncodeRow.laid) (((OpenSpec.ofChange Rows.vtparseEncodeSpec).at F).post enc Tryd.prog Tryd.f4 false true false false) := by
  obtain ⟨places, hx⟩ := reads os enc
  refine returnsInHanded_of_row (C := Tryd.checked) (s := OpenSpec.ofChange Rows.vtparseEncodeSpec) own started (by kernel_rfl) Tryd.func4
    (witness_row_at (enc := enc) (C := Tryd.checked) false (laidWorld5 os) #[.agg #[.int .i64 0, .int .i32 0, .int .u8 0, .int .u8 0, .string ⟨#[]⟩, .slice none 0 0, .string ⟨#[]⟩]] rfl (by kernel_rfl) (by kernel_rfl) (by kernel_rfl)
      (OpenSpec.preRow_of_cond 8 hx (by kernel_rfl) (fun k hk => by cases hk) (by kernel_rfl) (laid_met5 os _))) ?_
  intro W base args ds gs before hval hW _ _ _ hL _ _
  exact contract H enc W base args ds gs before hval hW hL

theorem said : Rows.VtparseEncodeSaid :=
  OpenClaim.holds_of_cond 4 Tryd.f4 rfl rfl rfl rfl rfl rfl rfl ⟨rfl, rfl, rfl, rfl, rfl⟩ rfl rfl rfl rfl rfl (by kernel_rfl) Tryd.func4 (by kernel_rfl)
    (of_decide_eq_true (by kernel_rfl)) (by unfold Func.isWrapper; first | (rw [if_pos (by decide +kernel)]; kernel_rfl) | (rw [if_neg (by decide +kernel)]; exact ⟨rfl, rfl⟩))
    (fun os started H enc _ F => by rw [OpenClaim.pre_eq_preRow]; exact lifted os started H enc F)

theorem plain (f : FuncId) (fn : Func) (hf : Tryd.pinned.checked.prog.funcNamed Rows.vtparseEncodeRow.func = some f) (hfn : Tryd.pinned.checked.prog.funcs[f]? = some fn) :
    false = Tryd.pinned.checked.prog.looks [] ∧ ∀ (j : Nat) t, fn.params[j]? = some t → Tryd.pinned.checked.prog.wantsStandIn t = false := by
  obtain rfl : f = 4 := Option.some.inj ((show Tryd.prog.funcNamed Rows.vtparseEncodeRow.func = some 4 by kernel_rfl).symm.trans hf) |>.symm
  obtain rfl : fn = Tryd.f4 := (Option.some.inj (Tryd.func4.symm.trans hfn)).symm
  refine ⟨by kernel_rfl, fun j t ht => ?_⟩
  rw [Tryd.params4] at ht
  have hm := Array.mem_of_getElem? ht
  simp at hm
  subst hm
  exact (show Tryd.prog.wantsStandIn 33 = false by kernel_rfl)

theorem proved : Rows.VtparseEncodeCardSaid :=
  Claim7.holds_tied_plain_at .later [] _ _ _ _ said (fun _ h => by cases h) (by kernel_rfl) (fun _ h => by cases h) vtparseEncode_row_tie rfl ⟨rfl, rfl⟩ (by kernel_rfl) rfl plain (by kernel_rfl)
end Go.Proofs.YtckknodckiljkaaDoor.encodeLaw
