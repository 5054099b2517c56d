/-
  How a slice of rows among the arguments of the statements of layer 12 reads, with a bound on its texts.
-/
import Derived.Test.YtgmgnlgolhjhmaaDoorSbRow2
namespace Go.Proofs.YtgmgnlgolhjhmaaDoor
open Go.Joins Go.ChangeShapes Go.WideShapes Go.ChangeAt Go.RowKit Go.Shelf Go.Deep Cr

theorem bulk_in {H : Type} {d : DataW H} {l : List (DataW H)} (h : d ∈ l) : Rows.uptoBulk d ≤ Rows.uptoBulkAll l := by
  induction l with
  | nil => cases h
  | cons x r ih =>
    unfold Rows.uptoBulkAll
    rcases List.mem_cons.1 h with e | e
    · rw [e]; omega
    · have := ih e; omega
theorem bulk_agg {H : Type} {d : DataW H} {l : List (DataW H)} (h : d ∈ l) : Rows.uptoBulk d ≤ Rows.uptoBulk (.agg l) := by
  have := bulk_in h
  have e : Rows.uptoBulk (.agg l) = Rows.uptoBulkAll l + 1 := by simp only [Rows.uptoBulk]
  omega
theorem bulk_slice {H : Type} {d : DataW H} {l s : List (DataW H)} (h : d ∈ l) : Rows.uptoBulk d ≤ Rows.uptoBulk (.slice l s) := by
  have := bulk_in h
  have e : Rows.uptoBulk (.slice l s) = Rows.uptoBulkAll l + Rows.uptoBulkAll s + 1 := by simp only [Rows.uptoBulk]
  omega
set_option maxRecDepth 100000 in
/-- The five cells of a cell of a row, and its text's bound. -/
theorem cell_of3 {H : Type} {enc : TypeId × Value → H} {W : World} {fuel : Nat} {cs : List Value} {x : DataW H × List MemPlace} (h : DataW.trod enc Tryd.prog W 0 (fun _ => true) true fuel 46 cs = some x) : ∃ c : C, cs = c.cells ∧ c.t.size ≤ Rows.uptoBulk x.1 := by
  obtain ⟨ys, n, _, rfl, hlen, hyl, hf⟩ := DataW.trod_struct Tryd.underlying46 h
  have c5 : Tryd.prog.cellsOf 46 = 5 := by kernel_rfl
  have c3 : Tryd.prog.cellsOf 44 = 3 := by kernel_rfl
  have k0 : Tryd.prog.cellsOf 9 = 1 := by kernel_rfl
  have k1 : Tryd.prog.cellsOf 3 = 1 := by kernel_rfl
  rw [c5] at hlen
  have hy3 : ys.length = 3 := hyl
  match cs, hlen, ys, hy3 with
  | [v0, v1, v2, v3, v4], _, [y0, y1, y2], _ =>
    have g0 : DataW.trod enc Tryd.prog W 0 (fun _ => true) true n 9 (([v0, v1, v2, v3, v4].drop 0).take (Tryd.prog.cellsOf 9)) = some y0 := hf 0 _ rfl
    have g1 : DataW.trod enc Tryd.prog W 0 (fun _ => true) true n 3 (([v0, v1, v2, v3, v4].drop 1).take (Tryd.prog.cellsOf 3)) = some y1 := hf 1 _ rfl
    have g2 : DataW.trod enc Tryd.prog W 0 (fun _ => true) true n 44 (([v0, v1, v2, v3, v4].drop 2).take (Tryd.prog.cellsOf 44)) = some y2 := hf 2 _ rfl
    rw [k0] at g0
    rw [k1] at g1
    rw [c3] at g2
    obtain ⟨zs, n', _, _, _, hzl, hg⟩ := DataW.trod_struct Tryd.underlying44 g2
    have hz3 : zs.length = 3 := hzl
    match zs, hz3 with
    | [z0, z1, z2], _ =>
      have q0 : DataW.trod enc Tryd.prog W 0 (fun _ => true) true n' 3 (([v2, v3, v4].drop 0).take (Tryd.prog.cellsOf 3)) = some z0 := hg 0 _ rfl
      have q1 : DataW.trod enc Tryd.prog W 0 (fun _ => true) true n' 3 (([v2, v3, v4].drop 1).take (Tryd.prog.cellsOf 3)) = some z1 := hg 1 _ rfl
      have q2 : DataW.trod enc Tryd.prog W 0 (fun _ => true) true n' 3 (([v2, v3, v4].drop 2).take (Tryd.prog.cellsOf 3)) = some z2 := hg 2 _ rfl
      rw [k1] at q0 q1 q2
      obtain ⟨x0, e0, e0', l0⟩ := DataW.trod_string Tryd.underlying9 g0
      obtain ⟨x1, e1, _⟩ := DataW.trod_int Tryd.underlying3 g1
      obtain ⟨x2, e2, _⟩ := DataW.trod_int Tryd.underlying3 q0
      obtain ⟨x3, e3, _⟩ := DataW.trod_int Tryd.underlying3 q1
      obtain ⟨x4, e4, _⟩ := DataW.trod_int Tryd.underlying3 q2
      simp at e0 e1 e2 e3 e4
      subst e0 e1 e2 e3 e4
      refine ⟨⟨x0, x1, x2, x3, x4⟩, rfl, ?_⟩
      have hb : Rows.uptoBulk y0.1 ≤ Rows.uptoBulk (.agg ([y0, y1, y2].map (·.1))) := bulk_agg (List.Mem.head _)
      have hs : Rows.uptoBulk y0.1 = x0.data.toList.length + 1 := by rw [e0']; simp only [Rows.uptoBulk]
      have hx : x0.size = x0.data.toList.length := rfl
      show x0.size ≤ Rows.uptoBulk (.agg ([y0, y1, y2].map (·.1)))
      omega
set_option maxRecDepth 100000 in
/-- An argument that is a slice of cells, and the bound on its texts. -/
theorem open_cells3 {H : Type} {enc : TypeId × Value → H} {W : World} {A : Option Addr} {n c : Nat} {d : DataW H} {p : List MemPlace} (h : DataW.Trod enc Tryd.prog W 0 (fun _ => true) true 25 (.slice A n c) d p) :
    ∃ l : List C, Rd W A n l ∧ n ≤ c ∧ n ≤ 9223372036854775807 ∧ ∀ x ∈ l, x.t.size ≤ Rows.uptoBulk d := by
  obtain ⟨fuel, hf⟩ := h
  rcases open_slice Tryd.underlying25 hf with ⟨hcs, _⟩ | ⟨a, len, cap, m, k, D, Pl, hcs, _, hl, hm, hmm, hxe, hi⟩
  · simp [Value.cells] at hcs
    obtain ⟨rfl, rfl, rfl⟩ := hcs
    exact ⟨[], Rd.nil _ _, Nat.le_refl _, by omega, fun x hx => by cases hx⟩
  · simp [Value.cells] at hcs
    obtain ⟨rfl, rfl, rfl⟩ := hcs
    have hd := congrArg Prod.fst hxe
    simp only at hd
    have hmn : n ≤ m := by rw [hmm]; simp; exact hl
    have c5 : Tryd.prog.cellsOf 46 = 5 := by kernel_rfl
    rw [c5] at hi
    obtain ⟨b, off, spot⟩ := a
    have key : ∀ i, i < n → ∃ x : C, (spot = none ∧ b < W.heap.size ∧ ∀ j v, x.cells[j]? = some v → W.cell? ⟨b, off + (5 * i + j), none⟩ = some v) ∧ x.t.size ≤ Rows.uptoBulk d := by
      intro i hin
      have hspot : spot = none := by
        obtain ⟨cs, hc, ht⟩ := hi 0 (by omega)
        obtain ⟨x, rfl, _⟩ := cell_of3 ht
        obtain ⟨_, _, hat⟩ := World.cells?_some hc
        have := hat 0 (by decide)
        exact World.cell?_spot (a := ⟨b, off, spot⟩) (by simpa [Addr.add, C.cells] using this)
      subst hspot
      obtain ⟨cs, hc, ht⟩ := hi i (by omega)
      obtain ⟨x, rfl, hxb⟩ := cell_of3 ht
      obtain ⟨_, _, hat⟩ := World.cells?_some hc
      have conv : ∀ (j : Nat) (v : Value), j < 5 → x.cells[j]? = some v → W.cell? ⟨b, off + (5 * i + j), none⟩ = some v := fun j v hj hv => by
        have h1 := hat j hj
        rw [addr_add] at h1
        have h2 : (⟨b, off + i * 5, none⟩ : Addr).add j = ⟨b, off + (5 * i + j), none⟩ := by
          rw [addr_add, Nat.mul_comm, Nat.add_assoc]
        rw [h2] at h1
        rw [h1, ← hv]
      have hbd : x.t.size ≤ Rows.uptoBulk d := by
        rw [hd]
        exact Nat.le_trans hxb (bulk_slice (List.mem_map.2 ⟨i, List.mem_range.2 hin, rfl⟩))
      refine ⟨x, ⟨rfl, ?_, fun j v hj => conv j v ?_ hj⟩, hbd⟩
      · have h0 := conv 0 _ (by decide) rfl
        rcases Nat.lt_or_ge b W.heap.size with hlt | hge
        · exact hlt
        · simp [World.cell?, Array.getElem?_eq_none hge] at h0
      · rcases Nat.lt_or_ge j 5 with hlt | hge
        · exact hlt
        · rw [List.getElem?_eq_none (by rw [C.cells_length]; exact hge)] at hj; cases hj
    obtain ⟨l, hgl, hq⟩ := choose_list n (fun i (x : C) => (spot = none ∧ b < W.heap.size ∧ ∀ j v, x.cells[j]? = some v → W.cell? ⟨b, off + (5 * i + j), none⟩ = some v) ∧ x.t.size ≤ Rows.uptoBulk d) key
    refine ⟨l, ⟨hgl, fun j x hj => ?_⟩, hl, by unfold maxLen at hm; omega, fun x hx => ?_⟩
    · obtain ⟨⟨hs, hb, hc⟩, _⟩ := hq j x hj
      subst hs
      exact ⟨b, off, rfl, hb, hc⟩
    · obtain ⟨j, hj⟩ := List.getElem?_of_mem hx
      exact (hq j x hj).2
set_option maxRecDepth 100000 in
/-- An element of a slice of rows, and the bound on its texts. -/
theorem row_in3 {H : Type} {enc : TypeId × Value → H} {W : World} {fuel : Nat} {v : Value} {d : DataW H} {p : List MemPlace} (h : DataW.trod enc Tryd.prog W 0 (fun _ => true) true fuel 25 [v] = some (d, p)) : ∃ l, In W v l ∧ ∀ x ∈ l, x.t.size ≤ Rows.uptoBulk d := by
  rcases open_slice Tryd.underlying25 h with ⟨hcs, _⟩ | ⟨a, len, cap, m, k, D, Pl, hcs, _⟩
  · have e : v = .slice none 0 0 := by simpa using hcs
    subst e
    exact ⟨[], In.nil W, fun x hx => by cases hx⟩
  · have e : v = .slice (some a) len cap := by simpa using hcs
    subst e
    obtain ⟨l, h1, h2, h3, h4⟩ := open_cells3 (A := some a) (n := len) (c := cap) ⟨fuel, h⟩
    exact ⟨l, ⟨some a, len, cap, rfl, h1, h2, (fun e => by cases e), h3⟩, h4⟩
set_option maxRecDepth 100000 in
/-- An argument that is a slice of rows, and the bound on its texts. -/
theorem open_rows3 {H : Type} {enc : TypeId × Value → H} {W : World} {v : Value} {d : DataW H} {p : List MemPlace} {A : Option Addr} {n c : Nat} (e0 : v = .slice A n c) (h : DataW.Trod enc Tryd.prog W 0 (fun _ => true) true 22 v d p) :
    ∃ L : List (List C), RdR W A n L ∧ n ≤ c ∧ n ≤ 9223372036854775807 ∧ (A = none → n = 0 ∧ c = 0) ∧ ∀ l ∈ L, ∀ x ∈ l, x.t.size ≤ Rows.uptoBulk d := by
  subst e0
  obtain ⟨fu, h2⟩ := h
  rcases open_slice1 Tryd.underlying22 (by kernel_rfl) h2 with ⟨hcs, _⟩ | ⟨a, n', c', m, k, V, D, Pl, hcs, _, hl, hm, hmm, hxe, hi⟩
  · simp [Value.cells] at hcs
    obtain ⟨rfl, rfl, rfl⟩ := hcs
    exact ⟨[], RdR.nil _ _, Nat.le_refl _, by omega, fun _ => ⟨rfl, rfl⟩, fun l hl => by cases hl⟩
  · simp [Value.cells] at hcs
    obtain ⟨rfl, rfl, rfl⟩ := hcs
    have hd := congrArg Prod.fst hxe
    simp only at hd
    have hmn : n ≤ m := by rw [hmm]; simp; exact hl
    obtain ⟨b, off, spot⟩ := a
    have key : ∀ i, i < n → ∃ l : List C, (spot = none ∧ b < W.heap.size ∧ ∃ hh, W.cell? ⟨b, off + i, none⟩ = some hh ∧ In W hh l) ∧ ∀ x ∈ l, x.t.size ≤ Rows.uptoBulk d := by
      intro i hin
      obtain ⟨hc, ht⟩ := hi i (by omega)
      obtain ⟨l, hl', hlb⟩ := row_in3 ht
      have hspot : spot = none := by
        obtain ⟨hc0, _⟩ := hi 0 (by omega)
        exact World.cell?_spot (a := ⟨b, off, spot⟩) (by simpa [Addr.add] using hc0)
      subst hspot
      rw [addr_add] at hc
      refine ⟨l, ⟨rfl, World.block_lt_of_cell? W _ hc, _, hc, hl'⟩, fun x hx => ?_⟩
      rw [hd]
      exact Nat.le_trans (hlb x hx) (bulk_slice (List.mem_map.2 ⟨i, List.mem_range.2 hin, rfl⟩))
    obtain ⟨L, hgl, hq⟩ := choose_list n (fun i (l : List C) => (spot = none ∧ b < W.heap.size ∧ ∃ hh, W.cell? ⟨b, off + i, none⟩ = some hh ∧ In W hh l) ∧ ∀ x ∈ l, x.t.size ≤ Rows.uptoBulk d) key
    refine ⟨L, ⟨hgl, fun j l hj => ?_⟩, hl, by unfold maxLen at hm; omega, (fun e => by cases e), fun l hl => ?_⟩
    · obtain ⟨⟨hs, hb, hh, hc, hin⟩, _⟩ := hq j l hj
      subst hs
      exact ⟨b, off, hh, rfl, hb, hc, hin, trivial⟩
    · obtain ⟨j, hj⟩ := List.getElem?_of_mem hl
      exact (hq j l hj).2

end Go.Proofs.YtgmgnlgolhjhmaaDoor
