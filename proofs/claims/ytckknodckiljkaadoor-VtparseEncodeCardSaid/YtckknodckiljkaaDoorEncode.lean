/-
  What Encode of vtparse returns, for every event; what Long returns.
-/
import Derived.Test.YtckknodckiljkaaDoorCheck
import Derived.Test.YtckknodckiljkaaDoorVtTrip
import Derived.Test.YtckknodckiljkaaDoorEncWalk
import Derived.Lib.AppendStr
namespace Go.Proofs.YtckknodckiljkaaDoor
open Go.RowKit

/-- append of bytes that were just laid. -/
theorem wpList_laidB {ops : Array Oper} {rest : List Oper} {o : Oper} {a : Act} {Q : Exit → Act → World → Prop} (hgd : o.guard = none) (s x : Operand)
    (ho : o.op = .call { callee := .builtin .append, args := #[s, x], argTypes := #[44, 44] })
    (w0 w : World) (v : Value) (l bs : List UInt8) (cs : Array Value) (hcs : (Lib.byteCells bs).toArray = cs) (m : Nat) (hm : bs.length = m) (hs : a.eval s = v) (hx : a.eval x = .slice (some ⟨w.heap.size, 0, none⟩) m m) (hout : Ci.OutB w0 w v l) (hl : l.length + bs.length ≤ 100000)
    (h : ∀ (A' : Option Addr) (n' c' : Nat) w1, Aside (Ci.OutB w0 w1 (.slice A' n' c') (l ++ bs)) → wpList Tryd.prog ops Q rest (a.put o.dst (.slice A' n' c')) w1) : wpList Tryd.prog ops Q (o :: rest) a (w.alloc (.cells cs 5)) := by
  subst hcs hm
  obtain ⟨i0, hi, hz0, hz1, hz2⟩ := info_parts Ci.Tryd.infoByte
  have hsz := hout.2.size
  have hbl : (Lib.byteCells bs).length = bs.length := by simp [Lib.byteCells]
  refine wpList_append_own _ hgd s x 44 ho w0.heap.size 5 i0 (.int .u8 0) 1 1 Tryd.underlying44 hi hz0 hz1 hz2 rfl (by decide) v l.length (Lib.byteCells l) hs (hout.1.alloc _) ⟨w.heap.size, 0, none⟩ bs.length bs.length (Lib.byteCells bs) hx (by rw [hbl, Nat.mul_one]) ?_ ?_ ?_ ?_ ?_ ?_
  · intro j u hj
    have e : (w.alloc (.cells (Lib.byteCells bs).toArray 5)).heap[w.heap.size]? = some (.cells (Lib.byteCells bs).toArray 5) := heap_alloc_new w _
    have hadd : (⟨w.heap.size, 0, none⟩ : Addr).add j = ⟨w.heap.size, j, none⟩ := by
      unfold Addr.add
      rw [Nat.zero_add]
      split
      · rename_i h0; rw [h0]
      · rfl
    rw [hadd, cell_of_row _ _ j _ _ _ e]
    simpa using hj
  · intro u hu
    simp only [Lib.byteCells, List.mem_map] at hu
    obtain ⟨b, _, rfl⟩ := hu
    rfl
  · unfold maxLen; omega
  · omega
  · simp; omega
  · intro v' w1 hown hgrow _
    have hout' : Ci.OutB w0 w1 v' (l ++ bs) := by
      refine ⟨?_, (hout.2.alloc hsz _).grown hgrow (by simp; omega) (fun k hk => (hout.1.lt k hk).1)⟩
      have e : Lib.byteCells (l ++ bs) = Lib.byteCells l ++ Lib.byteCells bs := by simp [Lib.byteCells]
      rw [e, List.length_append]
      exact hown
    obtain ⟨A', n', c', rfl⟩ := hout'.slice
    exact h A' n' c' w1 hout'
/-- append of a string's bytes. -/
theorem wpList_strB {ops : Array Oper} {rest : List Oper} {o : Oper} {a : Act} {Q : Exit → Act → World → Prop} (hgd : o.guard = none) (s x : Operand)
    (ho : o.op = .call { callee := .builtin .append, args := #[s, x], argTypes := #[44, 9] })
    (w0 w : World) (v : Value) (l bs : List UInt8) (hs : a.eval s = v) (hx : a.eval x = .string (ba bs)) (hout : Ci.OutB w0 w v l) (hl : l.length + bs.length ≤ 100000)
    (h : ∀ (A' : Option Addr) (n' c' : Nat) w1, Aside (Ci.OutB w0 w1 (.slice A' n' c') (l ++ bs)) → wpList Tryd.prog ops Q rest (a.put o.dst (.slice A' n' c')) w1) : wpList Tryd.prog ops Q (o :: rest) a w := by
  obtain ⟨i0, hi, hz0, hz1, hz2⟩ := info_parts Ci.Tryd.infoByte
  have hsz := hout.2.size
  have hbs := ba_size bs
  refine Lib.wpList_append_own_string w hgd s x 44 9 ho w0.heap.size 5 i0 Tryd.underlying44 Tryd.underlying9 hi hz0 hz1 hz2 v l.length (Lib.byteCells l) hs hout.1 (ba bs) hx (by unfold maxLen; omega) (by omega) hsz ?_
  intro v' w1 hown hgrow _
  have hout' : Ci.OutB w0 w1 v' (l ++ bs) := by
    refine ⟨?_, hout.2.grown hgrow hsz (fun k hk => (hout.1.lt k hk).1)⟩
    have e : Lib.byteCells (l ++ bs) = Lib.byteCells l ++ Lib.strCells (ba bs) := by simp [Lib.byteCells, Lib.strCells, ba_list]
    rw [e, List.length_append, ← hbs]
    exact hown
  obtain ⟨A', n', c', rfl⟩ := hout'.slice
  exact h A' n' c' w1 hout'


theorem evok_alloc {w : World} {g : G} (h : EvOk w g) (cs : Array Value) : EvOk (w.alloc (.cells cs 33)) g := h.below ((Below.refl _ _).alloc (Nat.le_refl _) _)

set_option maxHeartbeats 1000000 in
set_option maxRecDepth 100000 in
theorem encode_bad (g : G) (w : World) (h : EvOk w g) (hP : Ci.Pw w) (hne : Vt.chk g.e ≠ 0) :
    Calls Tryd.prog 20 #[.agg #[.int .i64 g.e.k, .int .i32 g.e.r, .int .u8 (g.e.c.toNat : Int), .int .u8 (g.e.p.toNat : Int), .string (ba g.e.i), .slice g.A g.n g.c, .string (ba g.e.t)]] w fun x w' => x = .returned (.tuple #[.string ⟨#[]⟩, .int .i64 (Vt.chk g.e)]) ∧ Below w.heap.size w w' := by
  have hb := (Below.refl w.heap.size w).alloc (Nat.le_refl _) (.cells #[.int .i64 g.e.k, .int .i32 g.e.r, .int .u8 (g.e.c.toNat : Int), .int .u8 (g.e.p.toNat : Int), .string (ba g.e.i), .slice g.A g.n g.c, .string (ba g.e.t)] 33)
  have CC := Lib.hid (check_any g _ (h.below hb) (hP.below hb))
  have HB := Lib.hid hb
  obtain ⟨⟨k, r, cc, p, i, ps, t⟩, A, n, c⟩ := g
  simp only at CC HB hne ⊢
  generalize Vt.chk ⟨k, r, cc, p, i, ps, t⟩ = q at CC hne ⊢
  have hq : (q != 0) = true := by simpa using hne
  clear hb h hne hP
  go_enter Tryd.func20, Tryd.ntmps20
  go_wp2_with fail
  refine CC.out.mono ?_
  rintro e w1 ⟨rfl, b1⟩
  go_wp2
  go_ret2
  exact ⟨rfl, HB.out.trans (b1.mono HB.out.size)⟩

set_option maxHeartbeats 2000000 in
set_option maxRecDepth 100000 in
theorem encode_2 (r : Int) (cc p : UInt8) (i : List UInt8) (ps : List Int) (t : List UInt8) (A : Option Addr) (n c : Nat) (w : World) (h : EvOk w ⟨⟨2, r, cc, p, i, ps, t⟩, A, n, c⟩) (hP : Ci.Pw w) (h0 : Vt.chk ⟨2, r, cc, p, i, ps, t⟩ = 0) :
    Calls Tryd.prog 20 #[.agg #[.int .i64 2, .int .i32 r, .int .u8 (cc.toNat : Int), .int .u8 (p.toNat : Int), .string (ba i), .slice A n c, .string (ba t)]] w fun x w' => x = .returned (.tuple #[.string (ba (Vt.enc ⟨2, r, cc, p, i, ps, t⟩)), .int .i64 0]) ∧ Below w.heap.size w w' := by
  have hb := (Below.refl w.heap.size w).alloc (Nat.le_refl _) (.cells #[.int .i64 2, .int .i32 r, .int .u8 (cc.toNat : Int), .int .u8 (p.toNat : Int), .string (ba i), .slice A n c, .string (ba t)] 33)
  have cC := check_any ⟨⟨2, r, cc, p, i, ps, t⟩, A, n, c⟩ _ (h.below hb) (hP.below hb)
  rw [h0] at cC
  have CC := Lib.hid cC
  have HB := Lib.hid hb
  have HK := Lib.hid (Ek.laid w #[.int .i64 2, .int .i32 r, .int .u8 (cc.toNat : Int), .int .u8 (p.toNat : Int), .string (ba i), .slice A n c, .string (ba t)])
  have hsm := Vt.ok_small h0
  simp only at hsm
  have HE : Hid (Vt.enc ⟨2, r, cc, p, i, ps, t⟩ = [cc]) := Lib.hid (by rfl)
  clear cC hb h0
  go_enter Tryd.func20, Tryd.ntmps20
  go_wp2_with fail
  refine CC.out.mono ?_
  rintro e w1 ⟨rfl, b1⟩
  have K1 := Lib.hid (HK.out.below b1)
  have HB1 := Lib.hid (HB.out.trans (b1.mono HB.out.size))
  have f0 : w1.cell? ⟨w.heap.size, 0, none⟩ = some (.int .i64 2) := K1.out.cell 0
  have f1 : w1.cell? ⟨w.heap.size, 1, none⟩ = some (.int .i32 r) := K1.out.cell 1
  have f2 : w1.cell? ⟨w.heap.size, 2, none⟩ = some (.int .u8 (cc.toNat : Int)) := K1.out.cell 2
  have f3 : w1.cell? ⟨w.heap.size, 3, none⟩ = some (.int .u8 (p.toNat : Int)) := K1.out.cell 3
  have f4 : w1.cell? ⟨w.heap.size, 4, none⟩ = some (.string (ba i)) := K1.out.cell 4
  have f5 : w1.cell? ⟨w.heap.size, 5, none⟩ = some (.slice A n c) := K1.out.cell 5
  have f6 : w1.cell? ⟨w.heap.size, 6, none⟩ = some (.string (ba t)) := K1.out.cell 6
  clear CC HK HB b1
  go_wp2_with (at_builtin; refine wpList_laidB rfl (.tmp 25) (.tmp 28) rfl w1 _ _ [] [cc] _ rfl 1 rfl rfl rfl (Ci.OutB.start w1) (by simp) ?_; intro A1 n1 c1 w2 hO1; have hcv := hO1.out.string)
  go_ret2
  rw [HE.out]
  exact ⟨rfl, (HB1.out.trans (hO1.out.2.mono HB1.out.size))⟩

set_option maxHeartbeats 2000000 in
set_option maxRecDepth 100000 in
theorem encode_3 (r : Int) (cc p : UInt8) (i : List UInt8) (ps : List Int) (t : List UInt8) (A : Option Addr) (n c : Nat) (w : World) (h : EvOk w ⟨⟨3, r, cc, p, i, ps, t⟩, A, n, c⟩) (hP : Ci.Pw w) (h0 : Vt.chk ⟨3, r, cc, p, i, ps, t⟩ = 0) :
    Calls Tryd.prog 20 #[.agg #[.int .i64 3, .int .i32 r, .int .u8 (cc.toNat : Int), .int .u8 (p.toNat : Int), .string (ba i), .slice A n c, .string (ba t)]] w fun x w' => x = .returned (.tuple #[.string (ba (Vt.enc ⟨3, r, cc, p, i, ps, t⟩)), .int .i64 0]) ∧ Below w.heap.size w w' := by
  have hb := (Below.refl w.heap.size w).alloc (Nat.le_refl _) (.cells #[.int .i64 3, .int .i32 r, .int .u8 (cc.toNat : Int), .int .u8 (p.toNat : Int), .string (ba i), .slice A n c, .string (ba t)] 33)
  have cC := check_any ⟨⟨3, r, cc, p, i, ps, t⟩, A, n, c⟩ _ (h.below hb) (hP.below hb)
  rw [h0] at cC
  have CC := Lib.hid cC
  have HB := Lib.hid hb
  have HK := Lib.hid (Ek.laid w #[.int .i64 3, .int .i32 r, .int .u8 (cc.toNat : Int), .int .u8 (p.toNat : Int), .string (ba i), .slice A n c, .string (ba t)])
  have hsm := Vt.ok_small h0
  simp only at hsm
  have HE : Hid (Vt.enc ⟨3, r, cc, p, i, ps, t⟩ = [] ++ [27] ++ i ++ [cc]) := Lib.hid (by rfl)
  clear cC hb h0
  go_enter Tryd.func20, Tryd.ntmps20
  go_wp2_with fail
  refine CC.out.mono ?_
  rintro e w1 ⟨rfl, b1⟩
  have K1 := Lib.hid (HK.out.below b1)
  have HB1 := Lib.hid (HB.out.trans (b1.mono HB.out.size))
  have f0 : w1.cell? ⟨w.heap.size, 0, none⟩ = some (.int .i64 3) := K1.out.cell 0
  have f1 : w1.cell? ⟨w.heap.size, 1, none⟩ = some (.int .i32 r) := K1.out.cell 1
  have f2 : w1.cell? ⟨w.heap.size, 2, none⟩ = some (.int .u8 (cc.toNat : Int)) := K1.out.cell 2
  have f3 : w1.cell? ⟨w.heap.size, 3, none⟩ = some (.int .u8 (p.toNat : Int)) := K1.out.cell 3
  have f4 : w1.cell? ⟨w.heap.size, 4, none⟩ = some (.string (ba i)) := K1.out.cell 4
  have f5 : w1.cell? ⟨w.heap.size, 5, none⟩ = some (.slice A n c) := K1.out.cell 5
  have f6 : w1.cell? ⟨w.heap.size, 6, none⟩ = some (.string (ba t)) := K1.out.cell 6
  clear CC HK HB b1
  go_wp2_with (first
    | (at_builtin; refine wpList_laidB rfl (.tmp 32) (.tmp 33) rfl w1 _ _ [] [27] _ rfl 1 rfl rfl rfl (Ci.OutB.start w1) (by simp) ?_; intro A1 n1 c1 w2 hO1; have g4w2 : w2.cell? ⟨w.heap.size, 4, none⟩ = some (.string (ba i)) := (K1.out.below hO1.out.2).cell 4)
    | (at_builtin; refine wpList_strB rfl (.tmp 35) (.tmp 37) rfl w1 _ _ _ i rfl rfl hO1.out (by simp; omega) ?_; intro A2 n2 c2 w3 hO2; have g2w3 : w3.cell? ⟨w.heap.size, 2, none⟩ = some (.int .u8 (cc.toNat : Int)) := (K1.out.below hO2.out.2).cell 2)
    | (at_builtin; refine wpList_laidB rfl (.tmp 39) (.tmp 42) rfl w1 _ _ _ [cc] _ rfl 1 rfl rfl rfl hO2.out (by simp; omega) ?_; intro A3 n3 c3 w4 hO3; have hcv := hO3.out.string))
  go_ret2
  rw [HE.out]
  exact ⟨rfl, (HB1.out.trans (hO3.out.2.mono HB1.out.size))⟩

set_option maxHeartbeats 2000000 in
set_option maxRecDepth 100000 in
theorem encode_5 (r : Int) (cc p : UInt8) (i : List UInt8) (ps : List Int) (t : List UInt8) (A : Option Addr) (n c : Nat) (w : World) (h : EvOk w ⟨⟨5, r, cc, p, i, ps, t⟩, A, n, c⟩) (hP : Ci.Pw w) (h0 : Vt.chk ⟨5, r, cc, p, i, ps, t⟩ = 0) :
    Calls Tryd.prog 20 #[.agg #[.int .i64 5, .int .i32 r, .int .u8 (cc.toNat : Int), .int .u8 (p.toNat : Int), .string (ba i), .slice A n c, .string (ba t)]] w fun x w' => x = .returned (.tuple #[.string (ba (Vt.enc ⟨5, r, cc, p, i, ps, t⟩)), .int .i64 0]) ∧ Below w.heap.size w w' := by
  have hb := (Below.refl w.heap.size w).alloc (Nat.le_refl _) (.cells #[.int .i64 5, .int .i32 r, .int .u8 (cc.toNat : Int), .int .u8 (p.toNat : Int), .string (ba i), .slice A n c, .string (ba t)] 33)
  have cC := check_any ⟨⟨5, r, cc, p, i, ps, t⟩, A, n, c⟩ _ (h.below hb) (hP.below hb)
  rw [h0] at cC
  have CC := Lib.hid cC
  have HB := Lib.hid hb
  have HK := Lib.hid (Ek.laid w #[.int .i64 5, .int .i32 r, .int .u8 (cc.toNat : Int), .int .u8 (p.toNat : Int), .string (ba i), .slice A n c, .string (ba t)])
  have hsm := Vt.ok_small h0
  simp only at hsm
  have HE : Hid (Vt.enc ⟨5, r, cc, p, i, ps, t⟩ = [] ++ [27, 93] ++ t ++ [7]) := Lib.hid (by rfl)
  clear cC hb h0
  go_enter Tryd.func20, Tryd.ntmps20
  go_wp2_with fail
  refine CC.out.mono ?_
  rintro e w1 ⟨rfl, b1⟩
  have K1 := Lib.hid (HK.out.below b1)
  have HB1 := Lib.hid (HB.out.trans (b1.mono HB.out.size))
  have f0 : w1.cell? ⟨w.heap.size, 0, none⟩ = some (.int .i64 5) := K1.out.cell 0
  have f1 : w1.cell? ⟨w.heap.size, 1, none⟩ = some (.int .i32 r) := K1.out.cell 1
  have f2 : w1.cell? ⟨w.heap.size, 2, none⟩ = some (.int .u8 (cc.toNat : Int)) := K1.out.cell 2
  have f3 : w1.cell? ⟨w.heap.size, 3, none⟩ = some (.int .u8 (p.toNat : Int)) := K1.out.cell 3
  have f4 : w1.cell? ⟨w.heap.size, 4, none⟩ = some (.string (ba i)) := K1.out.cell 4
  have f5 : w1.cell? ⟨w.heap.size, 5, none⟩ = some (.slice A n c) := K1.out.cell 5
  have f6 : w1.cell? ⟨w.heap.size, 6, none⟩ = some (.string (ba t)) := K1.out.cell 6
  clear CC HK HB b1
  go_wp2_with (first
    | (at_builtin; refine wpList_laidB rfl (.tmp 69) (.tmp 70) rfl w1 _ _ [] [27, 93] _ rfl 2 rfl rfl rfl (Ci.OutB.start w1) (by simp) ?_; intro A1 n1 c1 w2 hO1; have g6w2 : w2.cell? ⟨w.heap.size, 6, none⟩ = some (.string (ba t)) := (K1.out.below hO1.out.2).cell 6)
    | (at_builtin; refine wpList_strB rfl (.tmp 72) (.tmp 74) rfl w1 _ _ _ t rfl rfl hO1.out (by simp; omega) ?_; intro A2 n2 c2 w3 hO2)
    | (at_builtin; refine wpList_laidB rfl (.tmp 76) (.tmp 77) rfl w1 _ _ _ [7] _ rfl 1 rfl rfl rfl hO2.out (by simp; omega) ?_; intro A3 n3 c3 w4 hO3; have hcv := hO3.out.string))
  go_ret2
  rw [HE.out]
  exact ⟨rfl, (HB1.out.trans (hO3.out.2.mono HB1.out.size))⟩

set_option maxHeartbeats 2000000 in
set_option maxRecDepth 100000 in
theorem encode_4 (r : Int) (cc p : UInt8) (i : List UInt8) (ps : List Int) (t : List UInt8) (A : Option Addr) (n c : Nat) (w : World) (h : EvOk w ⟨⟨4, r, cc, p, i, ps, t⟩, A, n, c⟩) (hP : Ci.Pw w) (h0 : Vt.chk ⟨4, r, cc, p, i, ps, t⟩ = 0) :
    Calls Tryd.prog 20 #[.agg #[.int .i64 4, .int .i32 r, .int .u8 (cc.toNat : Int), .int .u8 (p.toNat : Int), .string (ba i), .slice A n c, .string (ba t)]] w fun x w' => x = .returned (.tuple #[.string (ba (Vt.enc ⟨4, r, cc, p, i, ps, t⟩)), .int .i64 0]) ∧ Below w.heap.size w w' := by
  have hb := (Below.refl w.heap.size w).alloc (Nat.le_refl _) (.cells #[.int .i64 4, .int .i32 r, .int .u8 (cc.toNat : Int), .int .u8 (p.toNat : Int), .string (ba i), .slice A n c, .string (ba t)] 33)
  have cC := check_any ⟨⟨4, r, cc, p, i, ps, t⟩, A, n, c⟩ _ (h.below hb) (hP.below hb)
  rw [h0] at cC
  have CC := Lib.hid cC
  have HB := Lib.hid hb
  have HK := Lib.hid (Ek.laid w #[.int .i64 4, .int .i32 r, .int .u8 (cc.toNat : Int), .int .u8 (p.toNat : Int), .string (ba i), .slice A n c, .string (ba t)])
  have hsm := Vt.ok_small h0
  simp only at hsm
  have HE : Hid (Vt.enc ⟨4, r, cc, p, i, ps, t⟩ = [] ++ [27, 91] ++ (Cp.fmt p ps i).1 ++ [cc]) := Lib.hid (by rfl)
  obtain ⟨lx, hxe, _, hxl, _⟩ := Vt.seq_facts h0 rfl
  obtain ⟨l, er, hf⟩ : ∃ l er, Cp.fmt p ps i = (l, er) := ⟨_, _, rfl⟩
  have hll : l.length ≤ 200 := by
    have e1 : Vt.enc ⟨4, r, cc, p, i, ps, t⟩ = 27 :: 91 :: ((Cp.fmt p ps i).1 ++ [cc]) := rfl
    rw [e1, hf] at hxe
    have := congrArg List.length hxe
    simp at this
    omega
  rw [hf] at HE
  have HF := Lib.hid hf
  clear hxe hxl hf
  clear cC hb h0
  go_enter Tryd.func20, Tryd.ntmps20
  go_wp2_with fail
  refine CC.out.mono ?_
  rintro e w1 ⟨rfl, b1⟩
  have K1 := Lib.hid (HK.out.below b1)
  have HB1 := Lib.hid (HB.out.trans (b1.mono HB.out.size))
  have f0 : w1.cell? ⟨w.heap.size, 0, none⟩ = some (.int .i64 4) := K1.out.cell 0
  have f1 : w1.cell? ⟨w.heap.size, 1, none⟩ = some (.int .i32 r) := K1.out.cell 1
  have f2 : w1.cell? ⟨w.heap.size, 2, none⟩ = some (.int .u8 (cc.toNat : Int)) := K1.out.cell 2
  have f3 : w1.cell? ⟨w.heap.size, 3, none⟩ = some (.int .u8 (p.toNat : Int)) := K1.out.cell 3
  have f4 : w1.cell? ⟨w.heap.size, 4, none⟩ = some (.string (ba i)) := K1.out.cell 4
  have f5 : w1.cell? ⟨w.heap.size, 5, none⟩ = some (.slice A n c) := K1.out.cell 5
  have f6 : w1.cell? ⟨w.heap.size, 6, none⟩ = some (.string (ba t)) := K1.out.cell 6
  clear CC HK HB b1
  have CF := Lib.hid (Ci.format_wide p A n c w1.heap.size ps (ba i) w1 (Nat.le_refl _) (h.below HB1.out).1 h.2.1 (by rw [ba_size]; exact h.2.2.1) (hP.below HB1.out) h.2.2.2.2 (l := l) (er := er) (by rw [ba_list]; exact HF.out))
  go_wp2_with fail
  refine CF.out.mono ?_
  rintro e w2 ⟨x, rfl, hx, b2⟩
  obtain rfl : x = ba l := by rw [← hx, ba_of]
  have K2 := Lib.hid (K1.out.below b2)
  have HB2 := Lib.hid (HB1.out.trans (b2.mono HB1.out.size))
  clear CF hx b2 f0 f1 f2 f3 f4 f5 f6
  go_wp2_with (first
    | (at_builtin; refine wpList_laidB rfl (.tmp 56) (.tmp 57) rfl w2 _ _ [] [27, 91] _ rfl 2 rfl rfl rfl (Ci.OutB.start w2) (by simp) ?_; intro A1 n1 c1 w3 hO1)
    | (at_builtin; refine wpList_strB rfl (.tmp 59) (.tmp 60) rfl w2 _ _ _ l rfl rfl hO1.out (by simp; omega) ?_; intro A2 n2 c2 w4 hO2; have g2 : w4.cell? ⟨w.heap.size, 2, none⟩ = some (.int .u8 (cc.toNat : Int)) := (K2.out.below hO2.out.2).cell 2)
    | (at_builtin; refine wpList_laidB rfl (.tmp 62) (.tmp 65) rfl w2 _ _ _ [cc] _ rfl 1 rfl rfl rfl hO2.out (by simp; omega) ?_; intro A3 n3 c3 w5 hO3; have hcv := hO3.out.string))
  go_ret2
  rw [HE.out]
  exact ⟨rfl, (HB2.out.trans (hO3.out.2.mono HB2.out.size))⟩

set_option maxHeartbeats 2000000 in
set_option maxRecDepth 100000 in
theorem encode_1 (r : Int) (cc p : UInt8) (i : List UInt8) (ps : List Int) (t : List UInt8) (A : Option Addr) (n c : Nat) (w : World) (h : EvOk w ⟨⟨1, r, cc, p, i, ps, t⟩, A, n, c⟩) (hP : Ci.Pw w) (h0 : Vt.chk ⟨1, r, cc, p, i, ps, t⟩ = 0) :
    Calls Tryd.prog 20 #[.agg #[.int .i64 1, .int .i32 r, .int .u8 (cc.toNat : Int), .int .u8 (p.toNat : Int), .string (ba i), .slice A n c, .string (ba t)]] w fun x w' => x = .returned (.tuple #[.string (ba (Vt.enc ⟨1, r, cc, p, i, ps, t⟩)), .int .i64 0]) ∧ Below w.heap.size w w' := by
  have hb := (Below.refl w.heap.size w).alloc (Nat.le_refl _) (.cells #[.int .i64 1, .int .i32 r, .int .u8 (cc.toNat : Int), .int .u8 (p.toNat : Int), .string (ba i), .slice A n c, .string (ba t)] 33)
  have cC := check_any ⟨⟨1, r, cc, p, i, ps, t⟩, A, n, c⟩ _ (h.below hb) (hP.below hb)
  rw [h0] at cC
  have CC := Lib.hid cC
  have HB := Lib.hid hb
  have HK := Lib.hid (Ek.laid w #[.int .i64 1, .int .i32 r, .int .u8 (cc.toNat : Int), .int .u8 (p.toNat : Int), .string (ba i), .slice A n c, .string (ba t)])
  have hsm := Vt.ok_small h0
  simp only at hsm
  have HE : Hid (Vt.enc ⟨1, r, cc, p, i, ps, t⟩ = U8.enc1 r) := Lib.hid (by rfl)
  clear cC hb h0
  go_enter Tryd.func20, Tryd.ntmps20
  go_wp2_with fail
  refine CC.out.mono ?_
  rintro e w1 ⟨rfl, b1⟩
  have K1 := Lib.hid (HK.out.below b1)
  have HB1 := Lib.hid (HB.out.trans (b1.mono HB.out.size))
  have f0 : w1.cell? ⟨w.heap.size, 0, none⟩ = some (.int .i64 1) := K1.out.cell 0
  have f1 : w1.cell? ⟨w.heap.size, 1, none⟩ = some (.int .i32 r) := K1.out.cell 1
  have f2 : w1.cell? ⟨w.heap.size, 2, none⟩ = some (.int .u8 (cc.toNat : Int)) := K1.out.cell 2
  have f3 : w1.cell? ⟨w.heap.size, 3, none⟩ = some (.int .u8 (p.toNat : Int)) := K1.out.cell 3
  have f4 : w1.cell? ⟨w.heap.size, 4, none⟩ = some (.string (ba i)) := K1.out.cell 4
  have f5 : w1.cell? ⟨w.heap.size, 5, none⟩ = some (.slice A n c) := K1.out.cell 5
  have f6 : w1.cell? ⟨w.heap.size, 6, none⟩ = some (.string (ba t)) := K1.out.cell 6
  clear CC HK HB b1
  have CU := Lib.hid (encode_any (some ⟨w1.heap.size, 0, none⟩) 1 1 (w1.heap.size + 1) [r] (w1.alloc (.cells #[.int .i32 r] 21)) (nums_new w1 [r] 21 1 rfl))
  have hrb : runesBytes [r] = ba (U8.enc1 r) := by
    rw [← ba_of (runesBytes [r]), U8.bytes_encL]
    simp [U8.encL]
  rw [hrb] at CU
  have hel : (U8.enc1 r).length ≤ 4 := by
    obtain ⟨c, _, _, _, h3⟩ := U8.enc_forms r
    rw [h3]
    repeat' split
    all_goals simp
  generalize U8.enc1 r = l at CU hel HE
  clear hrb
  go_wp2_with (first
    | (go_at_call 31; refine CU.out.mono ?_; rintro e w' ⟨rfl, rfl⟩)
    | (at_builtin; refine wpList_strB rfl (.tmp 17) (.tmp 21) rfl _ _ _ [] l rfl rfl (Ci.OutB.start _) (by simp; omega) ?_; intro A3 n3 c3 w5 hO3; have hcv := hO3.out.string))
  go_ret2
  rw [HE.out]
  have b2 := (HB1.out.alloc HB1.out.size (.cells #[.int .i32 r] 21))
  exact ⟨rfl, b2.trans (hO3.out.2.mono b2.size)⟩

/-- What Encode returns. -/
theorem encode_ev (g : G) (w : World) (h : EvOk w g) (hP : Ci.Pw w) :
    Calls Tryd.prog 20 #[.agg #[.int .i64 g.e.k, .int .i32 g.e.r, .int .u8 (g.e.c.toNat : Int), .int .u8 (g.e.p.toNat : Int), .string (ba g.e.i), .slice g.A g.n g.c, .string (ba g.e.t)]] w fun x w' => x = .returned (.tuple #[.string (ba (Vt.encode g.e).1), .int .i64 (Vt.encode g.e).2]) ∧ Below w.heap.size w w' := by
  by_cases h0 : Vt.chk g.e = 0
  · have e : Vt.encode g.e = (Vt.enc g.e, 0) := by unfold Vt.encode; rw [if_pos h0]
    rw [e]
    have hk := (Vt.chk_of h0).1
    obtain ⟨⟨k, r, cc, p, i, ps, t⟩, A, n, c⟩ := g
    simp only at hk h0 ⊢
    obtain rfl | rfl | rfl | rfl | rfl : k = 1 ∨ k = 2 ∨ k = 3 ∨ k = 4 ∨ k = 5 := by omega
    · exact encode_1 r cc p i ps t A n c w h hP h0
    · exact encode_2 r cc p i ps t A n c w h hP h0
    · exact encode_3 r cc p i ps t A n c w h hP h0
    · exact encode_4 r cc p i ps t A n c w h hP h0
    · exact encode_5 r cc p i ps t A n c w h hP h0
  · have e : Vt.encode g.e = ([], Vt.chk g.e) := by unfold Vt.encode; rw [if_neg h0]
    rw [e]
    exact encode_bad g w h hP h0

end Go.Proofs.YtckknodckiljkaaDoor
