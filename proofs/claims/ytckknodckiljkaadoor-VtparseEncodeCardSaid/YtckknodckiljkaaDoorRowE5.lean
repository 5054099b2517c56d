/-
  How the arguments of the statements of layer 6 read that are events and slices of events.
-/
import Derived.Test.YtckknodckiljkaaDoorRow5
import Derived.Test.YtckknodckiljkaaDoorLong
import Derived.Deep.Slices
import Derived.Deep.Fields
import Derived.ChangeSame
namespace Go.Proofs.YtckknodckiljkaaDoor
open Go.Joins Go.ChangeShapes Go.WideShapes Go.ChangeAt Go.RowKit Go.Deep

set_option maxRecDepth 100000 in
/-- The cells of an event, one a field. -/
theorem fields_of {H : Type} {enc : TypeId × Value → H} {W : World} {fuel : Nat} {cs : List Value} {x : DataW H × List MemPlace} (h : DataW.trod enc Tryd.prog W 0 (fun _ => true) true fuel 33 cs = some x) :
    ∃ (v0 v1 v2 v3 v4 v5 v6 : Value) (y0 y1 y2 y3 y4 y5 y6 : DataW H × List MemPlace) (n : Nat), cs = [v0, v1, v2, v3, v4, v5, v6] ∧
      DataW.trod enc Tryd.prog W 0 (fun _ => true) true n 3 [v0] = some y0 ∧ DataW.trod enc Tryd.prog W 0 (fun _ => true) true n 21 [v1] = some y1 ∧ DataW.trod enc Tryd.prog W 0 (fun _ => true) true n 5 [v2] = some y2 ∧ DataW.trod enc Tryd.prog W 0 (fun _ => true) true n 5 [v3] = some y3 ∧
      DataW.trod enc Tryd.prog W 0 (fun _ => true) true n 9 [v4] = some y4 ∧ DataW.trod enc Tryd.prog W 0 (fun _ => true) true n 31 [v5] = some y5 ∧ DataW.trod enc Tryd.prog W 0 (fun _ => true) true n 9 [v6] = some y6 := by
  obtain ⟨ys, n, _, _, hlen, hyl, hf⟩ := DataW.trod_struct Tryd.underlying33 h
  have c7 : Tryd.prog.cellsOf 33 = 7 := by kernel_rfl
  have k0 : Tryd.prog.cellsOf 3 = 1 := by kernel_rfl
  have k1 : Tryd.prog.cellsOf 21 = 1 := by kernel_rfl
  have k2 : Tryd.prog.cellsOf 5 = 1 := by kernel_rfl
  have k4 : Tryd.prog.cellsOf 9 = 1 := by kernel_rfl
  have k5 : Tryd.prog.cellsOf 31 = 1 := by kernel_rfl
  rw [c7] at hlen
  have hy7 : ys.length = 7 := hyl
  match cs, hlen, ys, hy7 with
  | [v0, v1, v2, v3, v4, v5, v6], _, [y0, y1, y2, y3, y4, y5, y6], _ =>
    have g0 : DataW.trod enc Tryd.prog W 0 (fun _ => true) true n 3 (([v0, v1, v2, v3, v4, v5, v6].drop 0).take (Tryd.prog.cellsOf 3)) = some y0 := hf 0 _ rfl
    have g1 : DataW.trod enc Tryd.prog W 0 (fun _ => true) true n 21 (([v0, v1, v2, v3, v4, v5, v6].drop 1).take (Tryd.prog.cellsOf 21)) = some y1 := hf 1 _ rfl
    have g2 : DataW.trod enc Tryd.prog W 0 (fun _ => true) true n 5 (([v0, v1, v2, v3, v4, v5, v6].drop 2).take (Tryd.prog.cellsOf 5)) = some y2 := hf 2 _ rfl
    have g3 : DataW.trod enc Tryd.prog W 0 (fun _ => true) true n 5 (([v0, v1, v2, v3, v4, v5, v6].drop 3).take (Tryd.prog.cellsOf 5)) = some y3 := hf 3 _ rfl
    have g4 : DataW.trod enc Tryd.prog W 0 (fun _ => true) true n 9 (([v0, v1, v2, v3, v4, v5, v6].drop 4).take (Tryd.prog.cellsOf 9)) = some y4 := hf 4 _ rfl
    have g5 : DataW.trod enc Tryd.prog W 0 (fun _ => true) true n 31 (([v0, v1, v2, v3, v4, v5, v6].drop 5).take (Tryd.prog.cellsOf 31)) = some y5 := hf 5 _ rfl
    have g6 : DataW.trod enc Tryd.prog W 0 (fun _ => true) true n 9 (([v0, v1, v2, v3, v4, v5, v6].drop 6).take (Tryd.prog.cellsOf 9)) = some y6 := hf 6 _ rfl
    rw [k0] at g0
    rw [k1] at g1
    rw [k2] at g2 g3
    rw [k4] at g4 g6
    rw [k5] at g5
    exact ⟨v0, v1, v2, v3, v4, v5, v6, y0, y1, y2, y3, y4, y5, y6, n, rfl, g0, g1, g2, g3, g4, g5, g6⟩

set_option maxRecDepth 100000 in
/-- A slice of numbers in a field. -/
theorem nums_of {H : Type} {enc : TypeId × Value → H} {W : World} {fuel : Nat} {v : Value} {x : DataW H × List MemPlace} (h : DataW.trod enc Tryd.prog W 0 (fun _ => true) true fuel 31 [v] = some x) :
    ∃ (A : Option Addr) (n c : Nat) (xs : List Int), v = .slice A n c ∧ Ci.Nums W W.heap.size A n xs ∧ n ≤ 9223372036854775807 ∧ ∀ z ∈ xs, -9223372036854775808 ≤ z ∧ z ≤ 9223372036854775807 := by
  rcases open_ints Tryd.underlying31 Tryd.underlying3 (by kernel_rfl) h with ⟨hcs, _⟩ | ⟨x, l, cap, zs, hcs, _, hl, hm, hz, _, hcell, hwz⟩
  · injection hcs with hcs
    exact ⟨none, 0, 0, [], hcs, ⟨rfl, fun j hj => by omega⟩, by omega, fun z hz => by cases hz⟩
  · injection hcs with hcs
    have hz : zs.length = cap := by simpa using hz
    refine ⟨some x, l, cap, zs.take l, hcs, ⟨by rw [List.length_take]; omega, fun j hj => ?_⟩, by unfold maxLen at hm; omega, fun z hzm => bounds_i64 (hwz z (List.mem_of_mem_take hzm))⟩
    obtain ⟨b, off, spot⟩ := x
    have hc := hcell j (by omega)
    have hspot : spot = none := by
      have h0 := hcell 0 (by omega)
      simpa [Addr.add] using World.cell?_spot h0
    subst hspot
    have ea : (⟨b, off, none⟩ : Addr).add j = ⟨b, off + j, none⟩ := by
      by_cases h0 : j = 0
      · subst h0; simp [Addr.add]
      · simp [Addr.add, h0]
    rw [ea] at hc
    refine ⟨b, off, rfl, ?_, ?_⟩
    · rcases Nat.lt_or_ge b W.heap.size with hlt | hge
      · exact hlt
      · simp [World.cell?, Array.getElem?_eq_none hge] at hc
    · rw [hc]
      congr 2
      simp [List.getD_eq_getElem?_getD, hj]
theorem byte_of (x : Int) (h : 0 ≤ x ∧ x ≤ 255) : ∃ b : UInt8, x = (b.toNat : Int) := ⟨UInt8.ofNat x.toNat, by rw [UInt8.toNat_ofNat']; omega⟩
set_option maxRecDepth 100000 in
/-- Seven cells that read as an event. -/
theorem event_of {H : Type} {enc : TypeId × Value → H} {W : World} {n : Nat} {v0 v1 v2 v3 v4 v5 v6 : Value} {y0 y1 y2 y3 y4 y5 y6 : DataW H × List MemPlace}
    (h0 : DataW.trod enc Tryd.prog W 0 (fun _ => true) true n 3 [v0] = some y0) (h1 : DataW.trod enc Tryd.prog W 0 (fun _ => true) true n 21 [v1] = some y1) (h2 : DataW.trod enc Tryd.prog W 0 (fun _ => true) true n 5 [v2] = some y2) (h3 : DataW.trod enc Tryd.prog W 0 (fun _ => true) true n 5 [v3] = some y3)
    (h4 : DataW.trod enc Tryd.prog W 0 (fun _ => true) true n 9 [v4] = some y4) (h5 : DataW.trod enc Tryd.prog W 0 (fun _ => true) true n 31 [v5] = some y5) (h6 : DataW.trod enc Tryd.prog W 0 (fun _ => true) true n 9 [v6] = some y6) :
    ∃ g : G, g.cells = [v0, v1, v2, v3, v4, v5, v6] ∧ EvOk W g := by
  obtain ⟨x0, e0, _⟩ := DataW.trod_int Tryd.underlying3 h0
  obtain ⟨x1, e1, _⟩ := DataW.trod_int Tryd.underlying21 h1
  obtain ⟨x2, e2, _, w2⟩ := DataW.trod_int Tryd.underlying5 h2
  obtain ⟨x3, e3, _, w3⟩ := DataW.trod_int Tryd.underlying5 h3
  obtain ⟨x4, e4, _, l4⟩ := DataW.trod_string Tryd.underlying9 h4
  obtain ⟨A, m, c, xs, rfl, hn, hm, hr⟩ := nums_of h5
  obtain ⟨x6, e6, _, l6⟩ := DataW.trod_string Tryd.underlying9 h6
  obtain ⟨b2, rfl⟩ := byte_of x2 (bounds_u8 w2)
  obtain ⟨b3, rfl⟩ := byte_of x3 (bounds_u8 w3)
  simp at e0 e1 e2 e3 e4 e6
  subst e0 e1 e2 e3 e4 e6
  unfold maxLen at l4 l6
  rw [Lib.size_eq] at l4 l6
  refine ⟨⟨⟨x0, x1, b2, b3, x4.data.toList, xs, x6.data.toList⟩, A, m, c⟩, by simp only [G.cells, ba_of], hn, hm, ?_, ?_, hr⟩
  · simp only; omega
  · simp only; omega
set_option maxRecDepth 100000 in
/-- An argument that is an event. -/
theorem open_event {H : Type} {enc : TypeId × Value → H} {W : World} {b0 : Nat} {v : Value} {d : DataW H} {p : List MemPlace} (hv : Value.okWide Tryd.prog W .any b0 33 v) (h : DataW.Trod enc Tryd.prog W 0 (fun _ => true) true 33 v d p) :
    ∃ g : G, v = .agg #[.int .i64 g.e.k, .int .i32 g.e.r, .int .u8 (g.e.c.toNat : Int), .int .u8 (g.e.p.toNat : Int), .string (ba g.e.i), .slice g.A g.n g.c, .string (ba g.e.t)] ∧ EvOk W g := by
  obtain ⟨cs, rfl, _⟩ := okWide_struct Tryd.underlying33 hv
  obtain ⟨fuel, hf⟩ := h
  obtain ⟨v0, v1, v2, v3, v4, v5, v6, y0, y1, y2, y3, y4, y5, y6, n, hcs, h0, h1, h2, h3, h4, h5, h6⟩ := fields_of hf
  obtain ⟨l⟩ := cs
  have hl : l = [v0, v1, v2, v3, v4, v5, v6] := hcs
  subst hl
  obtain ⟨g, hg, ho⟩ := event_of h0 h1 h2 h3 h4 h5 h6
  unfold G.cells at hg
  injection hg with a0 hg
  injection hg with a1 hg
  injection hg with a2 hg
  injection hg with a3 hg
  injection hg with a4 hg
  injection hg with a5 hg
  injection hg with a6 hg
  refine ⟨g, ?_, ho⟩
  rw [a0, a1, a2, a3, a4, a5, a6]
theorem choose_list {α : Type} (n : Nat) (Q : Nat → α → Prop) (h : ∀ i, i < n → ∃ a, Q i a) : ∃ l : List α, l.length = n ∧ ∀ j a, l[j]? = some a → Q j a := by
  induction n with
  | zero => exact ⟨[], rfl, fun j a hj => by simp at hj⟩
  | succ n ih =>
    obtain ⟨l, hl, hq⟩ := ih (fun i hi => h i (by omega))
    obtain ⟨a, ha⟩ := h n (by omega)
    refine ⟨l ++ [a], by simp [hl], fun j b hj => ?_⟩
    rcases Nat.lt_or_ge j n with hjn | hjn
    · rw [List.getElem?_append_left (by omega)] at hj
      exact hq j b hj
    · rw [List.getElem?_append_right (by omega), hl] at hj
      have : j - n = 0 := by
        rcases Nat.eq_zero_or_pos (j - n) with h0 | h0
        · exact h0
        · rw [List.getElem?_eq_none (by simp; omega)] at hj; cases hj
      rw [this] at hj
      have e : a = b := by simpa using hj
      have e2 : j = n := by omega
      rw [e2, ← e]
      exact ha
set_option maxRecDepth 100000 in
/-- An argument that is a slice of events. -/
theorem open_events {H : Type} {enc : TypeId × Value → H} {W : World} {A : Option Addr} {n c : Nat} {d : DataW H} {p : List MemPlace} (h : DataW.Trod enc Tryd.prog W 0 (fun _ => true) true 26 (.slice A n c) d p) :
    ∃ gs : List G, EvsOk W A n gs := by
  obtain ⟨fuel, hf⟩ := h
  rcases open_slice Tryd.underlying26 hf with ⟨hcs, _⟩ | ⟨a, len, cap, m, k, D, Pl, hcs, _, hl, hm, hmm, _, hi⟩
  · simp [Value.cells] at hcs
    obtain ⟨rfl, rfl, rfl⟩ := hcs
    exact ⟨[], ⟨[], rfl, rfl, (fun j g hj => by simp at hj), (fun g hg => by cases hg)⟩, by omega, fun j g hj => by simp at hj⟩
  · simp [Value.cells] at hcs
    obtain ⟨rfl, rfl, rfl⟩ := hcs
    have hmn : n ≤ m := by rw [hmm]; simp; exact hl
    have c7 : Tryd.prog.cellsOf 33 = 7 := by kernel_rfl
    rw [c7] at hi
    obtain ⟨b, off, spot⟩ := a
    have key : ∀ i, i < n → ∃ g : G, EvOk W g ∧ spot = none ∧ b < W.heap.size ∧ ∀ j v, g.cells[j]? = some v → W.cell? ⟨b, off + (7 * i + j), none⟩ = some v := by
      intro i hin
      have hspot : spot = none := by
        obtain ⟨cs, hc, ht⟩ := hi 0 (by omega)
        obtain ⟨v0, v1, v2, v3, v4, v5, v6, y0, y1, y2, y3, y4, y5, y6, _, rfl, _⟩ := fields_of ht
        obtain ⟨_, _, hat⟩ := World.cells?_some hc
        have := hat 0 (by decide)
        exact World.cell?_spot (a := ⟨b, off, spot⟩) (by simpa [Addr.add] using this)
      subst hspot
      obtain ⟨cs, hc, ht⟩ := hi i (by omega)
      obtain ⟨v0, v1, v2, v3, v4, v5, v6, y0, y1, y2, y3, y4, y5, y6, _, rfl, t0, t1, t2, t3, t4, t5, t6⟩ := fields_of ht
      obtain ⟨_, _, hat⟩ := World.cells?_some hc
      obtain ⟨g, hg, ho⟩ := event_of t0 t1 t2 t3 t4 t5 t6
      have hadd : ∀ q : Nat, (⟨b, off, none⟩ : Addr).add q = ⟨b, off + q, none⟩ := fun q => by
        unfold Addr.add
        split
        · rename_i h0; rw [h0]; rfl
        · rfl
      have conv : ∀ (j : Nat) (v : Value), j < 7 → g.cells[j]? = some v → W.cell? ⟨b, off + (7 * i + j), none⟩ = some v := fun j v hj hv => by
        have h1 := hat j hj
        rw [hadd] at h1
        have h2 : (⟨b, off + i * 7, none⟩ : Addr).add j = ⟨b, off + (7 * i + j), none⟩ := by
          unfold Addr.add
          split
          · rename_i h0; rw [h0, Nat.mul_comm]; rfl
          · rw [Nat.mul_comm, Nat.add_assoc]
        rw [h2] at h1
        rw [h1, ← hv, hg]
      refine ⟨g, ho, rfl, ?_, fun j v hj => conv j v ?_ hj⟩
      · have h0 := conv 0 _ (by decide) rfl
        rcases Nat.lt_or_ge b W.heap.size with hlt | hge
        · exact hlt
        · simp [World.cell?, Array.getElem?_eq_none hge] at h0
      · rcases Nat.lt_or_ge j 7 with hlt | hge
        · exact hlt
        · rw [List.getElem?_eq_none (by rw [G.cells_len]; exact hge)] at hj; cases hj
    obtain ⟨gs, hgl, hq⟩ := choose_list n (fun i g => EvOk W g ∧ spot = none ∧ b < W.heap.size ∧ ∀ j v, g.cells[j]? = some v → W.cell? ⟨b, off + (7 * i + j), none⟩ = some v) key
    refine ⟨gs, ⟨gs, rfl, hgl, fun j g hj => ?_, fun g hg => ?_⟩, by unfold maxLen at hm; omega, fun j g hj => ?_⟩
    · obtain ⟨_, hs, hb, hc⟩ := hq j g hj
      subst hs
      exact ⟨b, off, rfl, hb, hc⟩
    · obtain ⟨j, hj⟩ := List.getElem?_of_mem hg
      exact (hq j g hj).1.1
    · obtain ⟨ho, hs, hb, hc⟩ := hq j g hj
      subst hs
      exact ⟨ho, b, off, rfl, hb, hc⟩

end Go.Proofs.YtckknodckiljkaaDoor
