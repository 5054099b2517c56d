/-
  How a grid and a small number among the arguments of the statements of layer 8 read.
-/
import Derived.Test.YtgmgnlgolhjhmaaDoorCrRow2
import Derived.Test.YtgmgnlgolhjhmaaDoorGrRows
namespace Go.Proofs.YtgmgnlgolhjhmaaDoor
open Go.Joins Go.ChangeShapes Go.WideShapes Go.ChangeAt Go.RowKit Go.Shelf Go.Deep Cr

theorem bounds_u8 {n : Int} (h : (Lit.int .u8 n).wf = true) : 0 ≤ n ∧ n ≤ 255 := by
  simp [Lit.wf, IntKind.min, IntKind.max, IntKind.signed, IntKind.bits] at h
  omega
set_option maxRecDepth 100000 in
/-- An element of a slice of rows. -/
theorem row_in {H : Type} {enc : TypeId × Value → H} {W : World} {fuel : Nat} {v : Value} {x : DataW H × List MemPlace} (h : DataW.trod enc Tryd.prog W 0 (fun _ => true) true fuel 25 [v] = some x) : ∃ l, In W v l := by
  obtain ⟨d, p⟩ := x
  rcases open_slice Tryd.underlying25 h with ⟨hcs, _⟩ | ⟨a, len, cap, m, k, D, Pl, hcs, _⟩
  · have e : v = .slice none 0 0 := by simpa using hcs
    subst e
    exact ⟨[], In.nil W⟩
  · have e : v = .slice (some a) len cap := by simpa using hcs
    subst e
    obtain ⟨l, h1, h2, h3⟩ := open_cells (A := some a) (n := len) (c := cap) ⟨fuel, h⟩
    exact ⟨l, some a, len, cap, rfl, h1, h2, (fun e => by cases e), h3⟩
set_option maxRecDepth 100000 in
/-- An argument that is a grid. -/
theorem open_grid {H : Type} {enc : TypeId × Value → H} {W : World} {b0 : Nat} {v : Value} {d : DataW H} {p : List MemPlace} (hv : Value.okWide Tryd.prog W .any b0 35 v) (h : DataW.Trod enc Tryd.prog W 0 (fun _ => true) true 35 v d p) :
    ∃ (x y : Int) (A : Option Addr) (n c : Nat) (L : List (List C)), v = .agg #[.int .i64 x, .int .i64 y, .slice A n c] ∧ RdR W A n L ∧ n ≤ c ∧ n ≤ 9223372036854775807 := by
  obtain ⟨v0, v1, v2, y0, y1, y2, fu, rfl, _, _, h0, h1, h2⟩ := Go.Joins.open_agg3 Tryd.underlying35 (by kernel_rfl) (by kernel_rfl) hv h
  obtain ⟨x0, e0, _⟩ := DataW.trod_int Tryd.underlying3 h0
  obtain ⟨x1, e1, _⟩ := DataW.trod_int Tryd.underlying3 h1
  simp at e0 e1
  subst e0 e1
  rcases open_slice1 Tryd.underlying22 (by kernel_rfl) h2 with ⟨hcs, _⟩ | ⟨a, n, c, m, k, V, D, Pl, hcs, _, hl, hm, hmm, _, hi⟩
  · have e : v2 = .slice none 0 0 := by simpa using hcs
    subst e
    exact ⟨x0, x1, none, 0, 0, [], rfl, RdR.nil _ _, Nat.le_refl _, by omega⟩
  · have e : v2 = .slice (some a) n c := by simpa using hcs
    subst e
    have hmn : n ≤ m := by rw [hmm]; simp; exact hl
    obtain ⟨b, off, spot⟩ := a
    have key : ∀ i, i < n → ∃ l : List C, spot = none ∧ b < W.heap.size ∧ ∃ hh, W.cell? ⟨b, off + i, none⟩ = some hh ∧ In W hh l := by
      intro i hin
      obtain ⟨hc, ht⟩ := hi i (by omega)
      obtain ⟨l, hl'⟩ := row_in ht
      have hspot : spot = none := by
        obtain ⟨hc0, _⟩ := hi 0 (by omega)
        exact World.cell?_spot (a := ⟨b, off, spot⟩) (by simpa [Addr.add] using hc0)
      subst hspot
      rw [addr_add] at hc
      exact ⟨l, rfl, World.block_lt_of_cell? W _ hc, _, hc, hl'⟩
    obtain ⟨L, hgl, hq⟩ := choose_list n (fun i (l : List C) => spot = none ∧ b < W.heap.size ∧ ∃ hh, W.cell? ⟨b, off + i, none⟩ = some hh ∧ In W hh l) key
    refine ⟨x0, x1, some ⟨b, off, spot⟩, n, c, L, rfl, ⟨hgl, fun j l hj => ?_⟩, hl, by unfold maxLen at hm; omega⟩
    obtain ⟨hs, hb, hh, hc, hin⟩ := hq j l hj
    subst hs
    exact ⟨b, off, hh, rfl, hb, hc, hin, trivial⟩

end Go.Proofs.YtgmgnlgolhjhmaaDoor
