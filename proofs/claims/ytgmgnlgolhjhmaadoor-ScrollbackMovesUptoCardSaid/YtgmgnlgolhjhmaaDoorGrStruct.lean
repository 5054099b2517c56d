/-
  A grid in memory whose rows are replaced; iterating over a string; the function column of the statements.
-/
import Derived.Test.YtgmgnlgolhjhmaaDoorGrEnd
import Derived.Laws.RangeString
import Derived.Deep.RegionLaw
namespace Go.Proofs.YtgmgnlgolhjhmaaDoor
open Go.RowKit Go.Shelf Cr Gd

/-- A row of cells does not lie in a block without strings. -/
theorem In.cross {w w' : World} {k : Nat} (hk : ∀ i t, w.cell? ⟨k, i, none⟩ ≠ some (.string t)) (hsz : w.heap.size ≤ w'.heap.size) (ho : ∀ j, j < w.heap.size → j ≠ k → w'.heap[j]? = w.heap[j]?) {x : Value} {l : List C} (hi : In w x l) : In w' x l := by
  obtain ⟨A', m, c', e, hr, h1⟩ := hi
  refine ⟨A', m, c', e, ⟨hr.1, fun j y hj => ?_⟩, h1⟩
  obtain ⟨b, off, e2, hlt, hc⟩ := hr.2 j y hj
  have hne : b ≠ k := fun e => by subst e; exact hk _ _ (hc 0 _ rfl)
  exact ⟨b, off, e2, Nat.lt_of_lt_of_le hlt hsz, fun i v hv => (World.cell?_of_block (a := ⟨b, off + (5 * j + i), none⟩) (ho b hlt hne)).trans (hc i v hv)⟩
theorem Kg.noStr {w : World} {k : Nat} {W H : Int} {A : Option Addr} {n c : Nat} (h : Kg w k W H A n c) : ∀ i t, w.cell? ⟨k, i, none⟩ ≠ some (.string t) := by
  intro i t h0
  rw [cell_of_row w k _ _ _ _ h] at h0
  match i, h0 with
  | 0, h0 => simp at h0
  | 1, h0 => simp at h0
  | 2, h0 => simp at h0
  | q + 3, h0 => simp at h0
theorem GR.ne {w0 w : World} {v : Value} {L : List (List C)} (h : GR w0 w v L) {k : Nat} {o : Obj} (hk : w.heap[k]? = some o) (ho : ∀ cs fr, o ≠ .cells cs 25 fr) : some k ≠ v.ownBlock := by
  obtain ⟨hs, hown, _⟩ := h
  rcases hown.2 with ⟨rfl, _⟩ | ⟨g, cap, cur, rfl, _, hg, _⟩
  · simp [Value.ownBlock]
  · intro e
    simp only [Value.ownBlock, Option.some.injEq] at e
    subst e
    rw [hg] at hk
    injection hk with hk
    exact ho _ _ hk.symm
theorem grid_no (x y z : Value) : ∀ cs fr, (Obj.cells #[x, y, z] 35) ≠ .cells cs 25 fr := by
  intro cs fr e
  injection e with _ e _
  exact absurd e (by decide)
theorem Kg.grown {w0 w w' : World} {v : Value} {L : List (List C)} {k : Nat} {W H : Int} {A : Option Addr} {n c : Nat} (hk : Kg w k W H A n c) (h : GR w0 w v L) (hg : w.grownBy w' v.ownBlock) : Kg w' k W H A n c := (hg.block k hk.lt (h.ne hk (grid_no _ _ _))).trans hk
/-- Something else than the rows' own block is changed. -/
theorem GR.cross {w0 w w' : World} {v : Value} {L : List (List C)} (h : GR w0 w v L) {k : Nat} {o : Obj} (hk : w.heap[k]? = some o) (hno : ∀ cs fr, o ≠ .cells cs 25 fr) (hstr : ∀ i t, w.cell? ⟨k, i, none⟩ ≠ some (.string t)) (hsz : w.heap.size ≤ w'.heap.size) (ho : ∀ j, j < w.heap.size → j ≠ k → w'.heap[j]? = w.heap[j]?) (hb : Below w0.heap.size w0 w') : GR w0 w' v L := by
  have hne := h.ne hk hno
  obtain ⟨hs, hown, _, hh⟩ := h
  refine ⟨hs, ⟨hown.1, ?_⟩, hb, fun j x l hj hl => ⟨(hh j x l hj hl).1.cross hstr hsz ho, (hh j x l hj hl).2⟩⟩
  rcases hown.2 with hn | ⟨g, cap, cur, rfl, hbase, hg, rest⟩
  · exact .inl hn
  · refine .inr ⟨g, cap, cur, rfl, hbase, ?_, rest⟩
    have hgk : g ≠ k := fun e => hne (by simp [Value.ownBlock, e])
    rw [ho g (Array.getElem?_eq_some_iff.1 hg).1 hgk]
    exact hg
/-- The third field of the grid in the block k is replaced. -/
theorem GR.field {w0 w : World} {v : Value} {L : List (List C)} (h : GR w0 w v L) {k : Nat} {W H : Int} {A : Option Addr} {n c : Nat} (hk : Kg w k W H A n c) (hge : w0.heap.size ≤ k) (S : Value) : GR w0 (w.setCell ⟨k, 2, none⟩ S) v L :=
  h.cross hk (grid_no _ _ _) hk.noStr (by simp [World.setCell]) (fun j _ hj => heap_setCell_other w _ j S hj) (h.bel.setCell (p := ⟨k, 2, none⟩) hge S)
theorem Kg.field {w : World} {k : Nat} {W H : Int} {A : Option Addr} {n c : Nat} (hk : Kg w k W H A n c) (A' : Option Addr) (n' c' : Nat) : Kg (w.setCell ⟨k, 2, none⟩ (.slice A' n' c')) k W H A' n' c' := heap_setCell_same w k 2 _ _ (.slice A' n' c') hk
theorem Kg.other {w : World} {k q i : Nat} {W H : Int} {A : Option Addr} {n c : Nat} (hk : Kg w k W H A n c) (hne : k ≠ q) (S : Value) : Kg (w.setCell ⟨q, i, none⟩ S) k W H A n c := (heap_setCell_other w _ k S hne).trans hk

/-- The world behind a step of an iterator. -/
def stepIt (w : World) (k : Nat) (s : ByteArray) (p : Nat) : World := { w with heap := w.heap.setIfInBounds k (.stringIter s p) }
theorem stepIt_other (w : World) (k : Nat) (s : ByteArray) (p j : Nat) (h : j ≠ k) : (stepIt w k s p).heap[j]? = w.heap[j]? := by
  simp only [stepIt]
  rw [Array.getElem?_setIfInBounds_ne (by omega)]
theorem stepIt_same {w : World} {k : Nat} (s : ByteArray) (p : Nat) (h : k < w.heap.size) : (stepIt w k s p).heap[k]? = some (.stringIter s p) := by
  simp only [stepIt]
  rw [Array.getElem?_setIfInBounds_self_of_lt h]
theorem stepIt_size (w : World) (k : Nat) (s : ByteArray) (p : Nat) : (stepIt w k s p).heap.size = w.heap.size := by simp [stepIt]
theorem stepIt_below {B : Nat} {a w : World} (h : Below B a w) {k : Nat} (hk : B ≤ k) (s : ByteArray) (p : Nat) : Below B a (stepIt w k s p) :=
  ⟨h.os, h.tape, h.output, by rw [stepIt_size]; exact h.size, fun j hj => (stepIt_other w k s p j (by omega)).trans (h.block j hj)⟩
theorem run_next_at {P : Program} {w : World} {k : Nat} {s : ByteArray} {pos : Nat} (hk : w.heap[k]? = some (.stringIter s pos)) (h : pos < s.size) (ha : (s[pos]'h).toNat < 128) (ty : TypeId) :
    (Instr.next (.pointer (some ⟨k, 0, none⟩)) true ty).run P w = .ok (.tuple #[.bool true, .int .i64 pos, .int .i32 (s[pos]'h).toNat]) (stepIt w k s (pos + 1)) := by
  have hlt := (Array.getElem?_eq_some_iff.1 hk).1
  simp only [Instr.next, getObj, setObj, Sem.run_bind, Sem.run, hk, Result.andThen, h, if_true, decode_ascii s pos h ha]
  simp [goInt, stepIt]
theorem run_end_at {P : Program} {w : World} {k : Nat} {s : ByteArray} {pos : Nat} (hk : w.heap[k]? = some (.stringIter s pos)) (h : ¬ pos < s.size) (ty : TypeId) :
    (Instr.next (.pointer (some ⟨k, 0, none⟩)) true ty).run P w = .ok (.tuple #[.bool false]) w := by
  simp [Instr.next, getObj, Sem.run, hk, h]
theorem GR.step {w0 w : World} {v : Value} {L : List (List C)} (h : GR w0 w v L) {k : Nat} {s : ByteArray} {q : Nat} (hk : w.heap[k]? = some (.stringIter s q)) (hge : w0.heap.size ≤ k) (p : Nat) : GR w0 (stepIt w k s p) v L :=
  h.cross hk (fun cs fr e => by cases e) (fun i t e => by simp [World.cell?, hk] at e) (by rw [stepIt_size]; exact Nat.le_refl _) (fun j _ hj => stepIt_other w k s p j hj) (stepIt_below h.bel hge s p)

/-- The rows of the function column. -/
def colL (s : ByteArray) (k : Nat) : List (List C) := (List.range k).map (fun i => [pl (s.extract i (i + 1)) 1])
theorem colL_length (s : ByteArray) (k : Nat) : (colL s k).length = k := by simp [colL]
theorem colL_succ (s : ByteArray) (k : Nat) : colL s (k + 1) = colL s k ++ [[pl (s.extract k (k + 1)) 1]] := by simp [colL, List.range_succ]
def oneC (t : ByteArray) : Obj := .cells #[.string t, .int .i64 1, .int .i64 (-1), .int .i64 (-1), .int .i64 0] 46
theorem oneC_in (w : World) (t : ByteArray) : Rd (w.alloc (oneC t)) (some ⟨w.heap.size, 0, none⟩) 1 [pl t 1] := (Own.laid w [pl t 1] _ 1 rfl (by decide) rfl).rd.1

end Go.Proofs.YtgmgnlgolhjhmaaDoor
