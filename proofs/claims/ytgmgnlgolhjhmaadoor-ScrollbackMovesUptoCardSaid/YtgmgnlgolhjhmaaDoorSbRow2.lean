/-
  How a slice of rows among the arguments of the statements of layer 12 reads.
-/
import Derived.Test.YtgmgnlgolhjhmaaDoorGrRow2
namespace Go.Proofs.YtgmgnlgolhjhmaaDoor
open Go.Joins Go.ChangeShapes Go.WideShapes Go.ChangeAt Go.RowKit Go.Shelf Go.Deep Cr

set_option maxRecDepth 100000 in
/-- An argument that is a slice of rows. -/
theorem open_rows {H : Type} {enc : TypeId × Value → H} {W : World} {v : Value} {d : DataW H} {p : List MemPlace} {A : Option Addr} {n c : Nat} (e0 : v = .slice A n c) (h : DataW.Trod enc Tryd.prog W 0 (fun _ => true) true 22 v d p) :
    ∃ L : List (List C), RdR W A n L ∧ n ≤ c ∧ n ≤ 9223372036854775807 ∧ (A = none → n = 0 ∧ c = 0) := by
  subst e0
  obtain ⟨fu, h2⟩ := h
  rcases open_slice1 Tryd.underlying22 (by kernel_rfl) h2 with ⟨hcs, _⟩ | ⟨a, n', c', m, k, V, D, Pl, hcs, _, hl, hm, hmm, _, hi⟩
  · simp [Value.cells] at hcs
    obtain ⟨rfl, rfl, rfl⟩ := hcs
    exact ⟨[], RdR.nil _ _, Nat.le_refl _, by omega, fun _ => ⟨rfl, rfl⟩⟩
  · simp [Value.cells] at hcs
    obtain ⟨rfl, rfl, rfl⟩ := hcs
    have hmn : n ≤ m := by rw [hmm]; simp; exact hl
    obtain ⟨b, off, spot⟩ := a
    have key : ∀ i, i < n → ∃ l : List C, spot = none ∧ b < W.heap.size ∧ ∃ hh, W.cell? ⟨b, off + i, none⟩ = some hh ∧ In W hh l := by
      intro i hin
      obtain ⟨hc, ht⟩ := hi i (by omega)
      obtain ⟨l, hl'⟩ := row_in ht
      have hspot : spot = none := by
        obtain ⟨hc0, _⟩ := hi 0 (by omega)
        exact World.cell?_spot (a := ⟨b, off, spot⟩) (by simpa [Addr.add] using hc0)
      subst hspot
      rw [addr_add] at hc
      exact ⟨l, rfl, World.block_lt_of_cell? W _ hc, _, hc, hl'⟩
    obtain ⟨L, hgl, hq⟩ := choose_list n (fun i (l : List C) => spot = none ∧ b < W.heap.size ∧ ∃ hh, W.cell? ⟨b, off + i, none⟩ = some hh ∧ In W hh l) key
    refine ⟨L, ⟨hgl, fun j l hj => ?_⟩, hl, by unfold maxLen at hm; omega, fun e => by cases e⟩
    obtain ⟨hs, hb, hh, hc, hin⟩ := hq j l hj
    subst hs
    exact ⟨b, off, hh, rfl, hb, hc, hin, trivial⟩
theorem bounds_u16 {n : Int} (h : (Lit.int .u16 n).wf = true) : 0 ≤ n ∧ n ≤ 65535 := by
  simp [Lit.wf, IntKind.min, IntKind.max, IntKind.signed, IntKind.bits] at h
  omega
theorem bounds_i64 {n : Int} (h : (Lit.int .i64 n).wf = true) : -9223372036854775808 ≤ n ∧ n ≤ 9223372036854775807 := by
  simp [Lit.wf, IntKind.min, IntKind.max, IntKind.signed, IntKind.bits] at h
  omega

end Go.Proofs.YtgmgnlgolhjhmaaDoor
