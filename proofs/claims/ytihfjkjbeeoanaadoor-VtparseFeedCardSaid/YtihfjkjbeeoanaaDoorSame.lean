/-
  The document's own Same and SameEvents, at events that are the same.
-/
import Derived.Test.YtihfjkjbeeoanaaDoorFeedWalk
namespace Go.Proofs.YtihfjkjbeeoanaaDoor
open Go.RowKit

/-- The event's cells lie in block k. -/
def Ek (w : World) (k : Nat) (cs : Array Value) : Prop := w.heap[k]? = some (.cells cs 33)
theorem Ek.lt {w : World} {k : Nat} {cs : Array Value} (h : Ek w k cs) : k < w.heap.size := by
  rcases Nat.lt_or_ge k w.heap.size with h' | h'
  · exact h'
  · unfold Ek at h; rw [Array.getElem?_eq_none h'] at h; cases h
theorem Ek.cell {w : World} {k : Nat} {cs : Array Value} (h : Ek w k cs) (i : Nat) : w.cell? ⟨k, i, none⟩ = cs[i]? := cell_of_row w k i _ _ _ h
theorem Ek.z {w : World} {k : Nat} {cs : Array Value} (h : Ek w k cs) (i : Nat) : w.frozen? ⟨k, i, none⟩ = false := frozen_of_row w k i _ _ h
theorem Ek.below {w w' : World} {k : Nat} {cs : Array Value} (h : Ek w k cs) (hb : Below w.heap.size w w') : Ek w' k cs := (hb.block k h.lt).trans h
theorem Ek.laid (w : World) (cs : Array Value) : Ek (w.alloc (.cells cs 33)) w.heap.size cs := heap_alloc_new w _
theorem Ek.alloc {w : World} {k : Nat} {cs : Array Value} (h : Ek w k cs) (o : Obj) : Ek (w.alloc o) k cs := h.below ((Below.refl _ _).alloc (Nat.le_refl _) o)
theorem Ek.other {w : World} {k k' o : Nat} {cs : Array Value} (h : Ek w k cs) (hk : k ≠ k') (v : Value) : Ek (w.setCell ⟨k', o, none⟩ v) k cs := (heap_setCell_other w ⟨k', o, none⟩ k _ hk).trans h
/-- Two events in two new blocks. -/
def pairE (w : World) (a b : Array Value) : World := (w.alloc (.cells a 33)).alloc (.cells b 33)
theorem pair_low (w : World) (a b : Array Value) : Below w.heap.size w (pairE w a b) := ((Below.refl w.heap.size w).alloc (Nat.le_refl _) _).alloc (by simp) _
theorem pair_1 (w : World) (a b : Array Value) : Ek (pairE w a b) w.heap.size a := (Ek.laid w a).alloc _
theorem pair_2 (w : World) (a b : Array Value) : Ek (pairE w a b) (w.heap.size + 1) b := by
  have h := Ek.laid (w.alloc (.cells a 33)) b
  rw [World.size_alloc] at h
  exact h

set_option maxHeartbeats 2000000 in
set_option maxRecDepth 100000 in
theorem same_any (e : Vt.E) (A1 A2 : Option Addr) (n1 n2 c1 c2 : Nat) (w : World) (h1 : Ci.Nums w w.heap.size A1 n1 e.ps) (h2 : Ci.Nums w w.heap.size A2 n2 e.ps) (hl : e.ps.length ≤ 100000) :
    Calls Tryd.prog 17 #[.agg #[.int .i64 e.k, .int .i32 e.r, .int .u8 (e.c.toNat : Int), .int .u8 (e.p.toNat : Int), .string (ba e.i), .slice A1 n1 c1, .string (ba e.t)], .agg #[.int .i64 e.k, .int .i32 e.r, .int .u8 (e.c.toNat : Int), .int .u8 (e.p.toNat : Int), .string (ba e.i), .slice A2 n2 c2, .string (ba e.t)]] w
      fun x w' => x = .returned (.bool true) ∧ Below w.heap.size w w' := by
  obtain ⟨k, r, c, p, i, ps, t⟩ := e
  simp only at h1 h2 hl ⊢
  have hb := pair_low w #[.int .i64 k, .int .i32 r, .int .u8 (c.toNat : Int), .int .u8 (p.toNat : Int), .string (ba i), .slice A1 n1 c1, .string (ba t)] #[.int .i64 k, .int .i32 r, .int .u8 (c.toNat : Int), .int .u8 (p.toNat : Int), .string (ba i), .slice A2 n2 c2, .string (ba t)]
  have q1 := Lib.hid (pair_1 w #[.int .i64 k, .int .i32 r, .int .u8 (c.toNat : Int), .int .u8 (p.toNat : Int), .string (ba i), .slice A1 n1 c1, .string (ba t)] #[.int .i64 k, .int .i32 r, .int .u8 (c.toNat : Int), .int .u8 (p.toNat : Int), .string (ba i), .slice A2 n2 c2, .string (ba t)])
  have q2 := Lib.hid (pair_2 w #[.int .i64 k, .int .i32 r, .int .u8 (c.toNat : Int), .int .u8 (p.toNat : Int), .string (ba i), .slice A1 n1 c1, .string (ba t)] #[.int .i64 k, .int .i32 r, .int .u8 (c.toNat : Int), .int .u8 (p.toNat : Int), .string (ba i), .slice A2 n2 c2, .string (ba t)])
  have cS := Ci.same_yes A1 A2 n1 n2 c1 c2 w.heap.size w.heap.size ps _ hl (h1.below hb (Nat.le_refl _)) (h2.below hb (Nat.le_refl _))
  have CS := Lib.hid cS
  have HB := Lib.hid hb
  have e1 : ((ba i).toList == (ba i).toList) = true := by simp
  have e2 : ((ba t).toList == (ba t).toList) = true := by simp
  clear cS hb h1 h2
  go_enter Tryd.func17, Tryd.ntmps17
  go_wp2_with fail
  refine CS.out.mono ?_
  rintro e w1 ⟨rfl, b1⟩
  have s1 : w1.cell? ⟨w.heap.size, 6, none⟩ = some (.string (ba t)) := (q1.out.below b1).cell 6
  have s2 : w1.cell? ⟨w.heap.size + 1, 6, none⟩ = some (.string (ba t)) := (q2.out.below b1).cell 6
  have HB1 := Lib.hid (HB.out.trans (b1.mono HB.out.size))
  clear b1 CS HB q1 q2
  go_wp2
  go_ret
  exact ⟨rfl, HB1.out⟩

/-- The cells of element j. -/
theorem Evs.at {w : World} {A : Option Addr} {n : Nat} {es : List Vt.E} (h : Evs w A n es) (j : Nat) (hj : j < n) : ∃ (b off : Nat) (A' : Option Addr) (n' c' : Nat) (e : Vt.E), A = some ⟨b, off, none⟩ ∧ es[j]? = some e ∧ b < w.heap.size ∧ Ci.Nums w w.heap.size A' n' e.ps ∧
    w.cell? ⟨b, off + j * 7, none⟩ = some (.int .i64 e.k) ∧ w.cell? ⟨b, off + j * 7 + 1, none⟩ = some (.int .i32 e.r) ∧ w.cell? ⟨b, off + j * 7 + 2, none⟩ = some (.int .u8 (e.c.toNat : Int)) ∧ w.cell? ⟨b, off + j * 7 + 3, none⟩ = some (.int .u8 (e.p.toNat : Int)) ∧
    w.cell? ⟨b, off + j * 7 + 4, none⟩ = some (.string (ba e.i)) ∧ w.cell? ⟨b, off + j * 7 + 5, none⟩ = some (.slice A' n' c') ∧ w.cell? ⟨b, off + j * 7 + 6, none⟩ = some (.string (ba e.t)) := by
  obtain ⟨gs, rfl, h2, h3, h4⟩ := h
  have hjl : j < gs.length := by omega
  obtain ⟨b, off, e, hb, hc⟩ := h3 j gs[j] (List.getElem?_eq_getElem hjl)
  refine ⟨b, off, gs[j].A, gs[j].n, gs[j].c, gs[j].e, e, by simp [hjl], hb, h4 _ (List.getElem_mem hjl), ?_⟩
  have hq : ∀ i v, gs[j].cells[i]? = some v → w.cell? ⟨b, off + j * 7 + i, none⟩ = some v := fun i v hv => by rw [Nat.add_assoc, Nat.mul_comm]; exact hc i v hv
  exact ⟨hq 0 _ rfl, hq 1 _ rfl, hq 2 _ rfl, hq 3 _ rfl, hq 4 _ rfl, hq 5 _ rfl, hq 6 _ rfl⟩

set_option maxHeartbeats 2000000 in
set_option maxRecDepth 100000 in
theorem sameEvents_any (es : List Vt.E) (A1 A2 : Option Addr) (n c1 c2 : Nat) (w : World) (h1 : Evs w A1 n es) (h2 : Evs w A2 n es) (hn : n ≤ 100000) (hl : ∀ e ∈ es, e.ps.length ≤ 100000) :
    Calls Tryd.prog 8 #[.slice A1 n c1, .slice A2 n c2] w fun x w' => x = .returned (.bool true) ∧ Below w.heap.size w w' := by
  have hne : ((n : Int) != (n : Int)) = false := by simp
  have H1 := Lib.hid h1
  have H2 := Lib.hid h2
  have HL := Lib.hid hl
  clear h1 h2 hl
  go_enter Tryd.func8, Tryd.ntmps8
  go_wp2
  go_loopg [5] (n + 1) (fun gk i wr => ∃ k : Nat, gk + k = n + 1 ∧ k ≤ n ∧ i = .int .i64 (k : Int) ∧ Aside (Below w.heap.size w wr))
  case atStart => exact ⟨0, by omega, Nat.zero_le _, rfl, Below.refl _ _⟩
  case round =>
    obtain ⟨k, hg, hkn, rfl, hB⟩ := hrel
    by_cases hlt : k < n
    · obtain ⟨g', rfl⟩ : ∃ g', gk = g' + 1 := ⟨gk - 1, by omega⟩
      have hz : (k : Int) < (n : Int) := by omega
      have hz0 : (0 : Int) ≤ (k : Int) := by omega
      obtain ⟨b1, o1, A3, n3, c3, e, rfl, he, l1, m1, p0, p1, p2, p3, p4, p5, p6⟩ := (H1.out.below hB.out).at k hlt
      obtain ⟨b2, o2, A4, n4, c4, e', rfl, he', l2, m2, r0, r1, r2, r3, r4, r5, r6⟩ := (H2.out.below hB.out).at k hlt
      have hee : e = e' := by rw [he] at he'; injection he'
      subst hee
      have cS := same_any e A3 A4 n3 n4 c3 c4 wr.drew m1 m2 (HL.out e (List.mem_of_getElem? he))
      have CS := Lib.hid cS
      clear cS he he' m1 m2 l1 l2
      go_upto_region 6 with fail
      go_cut [26] (fun v wx => v = .bool false ∧ Aside (Below w.heap.size w wx))
      case first =>
        go_region_law (go_simp; refine CS.out.mono ?_; rintro e w2 ⟨rfl, b2⟩)
        all_goals
          go_wp2
          go_meet
          exact ⟨rfl, hB.out.drew.trans (b2.mono hB.out.size)⟩
      case rest =>
        obtain ⟨rfl, hB2⟩ := hcut
        clear p0 p1 p2 p3 p4 p5 p6 r0 r1 r2 r3 r4 r5 r6 CS
        go_wp2
        go_roundg g'
        case measure => omega
        case rel => exact ⟨k + 1, by omega, by omega, by go_num, hB2⟩
    · have hz : ¬ (k : Int) < (n : Int) := by omega
      go_wp2
      go_ret
      exact ⟨rfl, hB.out⟩

end Go.Proofs.YtihfjkjbeeoanaaDoor
