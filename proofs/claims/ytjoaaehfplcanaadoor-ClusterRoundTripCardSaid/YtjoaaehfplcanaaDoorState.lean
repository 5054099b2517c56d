/-
  The memory of a Split that is under way: the variable with the clusters, the count of marks, the function that begins a cluster, and the row of strings.
-/
import Derived.Test.YtjoaaehfplcanaaDoorStrs
namespace Go.Proofs.YtjoaaehfplcanaaDoor
open Go.RowKit

/-- The function value that begins a cluster. -/
def beginOf (g : Nat) : Value := .func (.func 31) #[] #[.pointer (some ⟨g, 0, none⟩), .pointer (some ⟨g + 1, 0, none⟩)]

/-- The variables of the call that began in w0 lie at g, g + 1 and g + 2; the clusters so far are ss, and the last one has m marks. -/
def St (w0 : World) (g : Nat) (w : World) (v : Value) (ss : List ByteArray) (m : Int) : Prop :=
  (w.heap[g]? = some (.cells #[v] 25) ∧ w.heap[g + 1]? = some (.cells #[.int .i64 m] 3) ∧ w.heap[g + 2]? = some (.cells #[beginOf g] 47)) ∧
  w.ownsRow (g + 3) 9 1 v ss.length (ss.map Value.string) ∧ Below g w0 w

theorem lt_of_heap {w : World} {k : Nat} {x : Obj} (h : w.heap[k]? = some x) : k < w.heap.size := by
  rcases Nat.lt_or_ge k w.heap.size with h' | h'
  · exact h'
  · rw [Array.getElem?_eq_none h'] at h; cases h
theorem St.lt {w0 : World} {g : Nat} {w : World} {v : Value} {ss : List ByteArray} {m : Int} (h : St w0 g w v ss m) : g + 2 < w.heap.size := lt_of_heap h.1.2.2
theorem St.cellC {w0 : World} {g : Nat} {w : World} {v : Value} {ss : List ByteArray} {m : Int} (h : St w0 g w v ss m) : w.cell? ⟨g, 0, none⟩ = some v ∧ w.frozen? ⟨g, 0, none⟩ = false :=
  ⟨cell_of_row w g 0 _ _ _ h.1.1, frozen_of_row w g 0 _ _ h.1.1⟩
theorem St.cellM {w0 : World} {g : Nat} {w : World} {v : Value} {ss : List ByteArray} {m : Int} (h : St w0 g w v ss m) : w.cell? ⟨g + 1, 0, none⟩ = some (.int .i64 m) ∧ w.frozen? ⟨g + 1, 0, none⟩ = false :=
  ⟨cell_of_row w (g + 1) 0 _ _ _ h.1.2.1, frozen_of_row w (g + 1) 0 _ _ h.1.2.1⟩
theorem St.cellB {w0 : World} {g : Nat} {w : World} {v : Value} {ss : List ByteArray} {m : Int} (h : St w0 g w v ss m) : w.cell? ⟨g + 2, 0, none⟩ = some (beginOf g) :=
  cell_of_row w (g + 2) 0 _ _ _ h.1.2.2
theorem St.below {w0 : World} {g : Nat} {w w' : World} {v : Value} {ss : List ByteArray} {m : Int} (h : St w0 g w v ss m) (hb : Below w.heap.size w w') : St w0 g w' v ss m := by
  have hl := h.lt
  exact ⟨⟨(hb.block g (by omega)).trans h.1.1, (hb.block (g + 1) (by omega)).trans h.1.2.1, (hb.block (g + 2) hl).trans h.1.2.2⟩, owns_below h.2.1 hb, h.2.2.trans (hb.mono (by omega))⟩
theorem St.alloc {w0 : World} {g : Nat} {w : World} {v : Value} {ss : List ByteArray} {m : Int} (h : St w0 g w v ss m) (o : Obj) : St w0 g (w.alloc o) v ss m :=
  h.below ((Below.refl _ _).alloc (Nat.le_refl _) o)
theorem St.drew {w0 : World} {g : Nat} {w : World} {v : Value} {ss : List ByteArray} {m : Int} (h : St w0 g w v ss m) : St w0 g w.drew v ss m :=
  h.below (Below.refl _ _).drew
/-- The count of marks is set. -/
theorem St.setM {w0 : World} {g : Nat} {w : World} {v : Value} {ss : List ByteArray} {m : Int} (h : St w0 g w v ss m) (m' : Int) : St w0 g (w.setCell ⟨g + 1, 0, none⟩ (.int .i64 m')) v ss m' := by
  have e : ∀ k, k ≠ g + 1 → (w.setCell ⟨g + 1, 0, none⟩ (.int .i64 m')).heap[k]? = w.heap[k]? := fun k hk => heap_setCell_other w ⟨g + 1, 0, none⟩ k _ hk
  refine ⟨⟨(e g (by omega)).trans h.1.1, heap_setCell_same w (g + 1) 0 _ _ _ h.1.2.1, (e (g + 2) (by omega)).trans h.1.2.2⟩, ?_, h.2.2.setCell (by show g ≤ g + 1; omega) _⟩
  have hg : w.grownBy (w.setCell ⟨g + 1, 0, none⟩ (.int .i64 m')) (some (g + 1)) := ⟨rfl, rfl, rfl, by simp, fun k _ hk => e k (fun c => hk (by rw [c]))⟩
  refine h.2.1.kept hg ?_
  cases hv : v.ownBlock with
  | none => exact .inl rfl
  | some k =>
    right
    have := (h.2.1.lt k hv).1
    intro c
    injection c with c
    omega
/-- The row has grown by one string, and the variable is set to it. -/
theorem St.grown {w0 : World} {g : Nat} {w w1 : World} {v v' : Value} {ss : List ByteArray} {z : ByteArray} {m : Int} (h : St w0 g w v ss m) (hown : w1.ownsRow (g + 3) 9 1 v' (ss.length + 1) (ss.map Value.string ++ [.string z])) (hgr : w.grownBy w1 v.ownBlock) :
    St w0 g (w1.setCell ⟨g, 0, none⟩ v') v' (ss ++ [z]) m := by
  have hl := h.lt
  have hne : ∀ k, k < g + 3 → some k ≠ v.ownBlock := fun k hk c => by
    have := (h.2.1.lt k c.symm).1
    omega
  have e1 : ∀ k, k < g + 3 → w1.heap[k]? = w.heap[k]? := fun k hk => hgr.block k (by omega) (hne k hk)
  have e : ∀ k, k ≠ g → (w1.setCell ⟨g, 0, none⟩ v').heap[k]? = w1.heap[k]? := fun k hk => heap_setCell_other w1 ⟨g, 0, none⟩ k _ hk
  have hc : w1.heap[g]? = some (.cells #[v] 25) := (e1 g (by omega)).trans h.1.1
  refine ⟨⟨heap_setCell_same w1 g 0 _ _ _ hc, ((e (g + 1) (by omega)).trans (e1 (g + 1) (by omega))).trans h.1.2.1, ((e (g + 2) (by omega)).trans (e1 (g + 2) (by omega))).trans h.1.2.2⟩, ?_, ?_⟩
  · have hg : w1.grownBy (w1.setCell ⟨g, 0, none⟩ v') (some g) := ⟨rfl, rfl, rfl, by simp, fun k _ hk => e k (fun c => hk (by rw [c]))⟩
    have hown2 : w1.ownsRow (g + 3) 9 1 v' (ss ++ [z]).length ((ss ++ [z]).map Value.string) := by simpa using hown
    refine hown2.kept hg ?_
    cases hv : v'.ownBlock with
    | none => exact .inl rfl
    | some k =>
      right
      have := (hown2.lt k hv).1
      intro c
      injection c with c
      omega
  · exact (h.2.2.grown hgr (by omega) (fun k hk => by have := (h.2.1.lt k hk).1; omega)).setCell (by show g ≤ g; omega) _
/-- The variables behind an append to the row. -/
theorem St.vars {w0 : World} {g : Nat} {w w1 : World} {v : Value} {ss : List ByteArray} {m : Int} (h : St w0 g w v ss m) (hgr : w.grownBy w1 v.ownBlock) :
    w1.cell? ⟨g, 0, none⟩ = some v ∧ w1.frozen? ⟨g, 0, none⟩ = false ∧ w1.cell? ⟨g + 1, 0, none⟩ = some (.int .i64 m) ∧ w1.frozen? ⟨g + 1, 0, none⟩ = false := by
  have hl := h.lt
  have hne : ∀ k, k < g + 3 → some k ≠ v.ownBlock := fun k hk c => by
    have := (h.2.1.lt k c.symm).1
    omega
  have e1 : ∀ k, k < g + 3 → w1.heap[k]? = w.heap[k]? := fun k hk => hgr.block k (by omega) (hne k hk)
  have c1 := (e1 g (by omega)).trans h.1.1
  have c2 := (e1 (g + 1) (by omega)).trans h.1.2.1
  exact ⟨cell_of_row w1 g 0 _ _ _ c1, frozen_of_row w1 g 0 _ _ c1, cell_of_row w1 (g + 1) 0 _ _ _ c2, frozen_of_row w1 (g + 1) 0 _ _ c2⟩
/-- What the last string of the row is, and where; and the row behind a store to it. -/
theorem St.last {w0 : World} {g : Nat} {w : World} {v : Value} {ss : List ByteArray} {x : ByteArray} {m : Int} (h : St w0 g w v (ss ++ [x]) m) :
    ∃ k cap, v = .slice (some ⟨k, 0, none⟩) (ss.length + 1) cap ∧ g + 3 ≤ k ∧ k < w.heap.size ∧ w.cell? ⟨k, ss.length, none⟩ = some (.string x) ∧ w.frozen? ⟨k, ss.length, none⟩ = false ∧
      ∀ y : ByteArray, St w0 g (w.setCell ⟨k, ss.length, none⟩ (.string y)) v (ss ++ [y]) m := by
  have hl := h.lt
  have hn : (ss ++ [x]).length = ss.length + 1 := by simp
  rcases h.2.1.2 with ⟨_, e0⟩ | ⟨k, cap, cur, e, hk, hg, _⟩
  · rw [hn] at e0; omega
  · rw [hn] at e
    have hown := h.2.1
    rw [e, hn] at hown
    refine ⟨k, cap, e, hk, lt_of_heap hg, ?_, hown.frozenAt _, fun y => ?_⟩
    · rw [hown.cellAt ss.length (by omega)]
      simp
    · have hs := hown.stored ss.length (.string y)
      have eo : ∀ j, j < g + 3 → (w.setCell ⟨k, ss.length, none⟩ (.string y)).heap[j]? = w.heap[j]? := fun j hj => heap_setCell_other w ⟨k, ss.length, none⟩ j _ (by show j ≠ k; omega)
      refine ⟨⟨(eo g (by omega)).trans h.1.1, (eo (g + 1) (by omega)).trans h.1.2.1, (eo (g + 2) (by omega)).trans h.1.2.2⟩, ?_, h.2.2.setCell (by show g ≤ k; omega) _⟩
      have e2 : ((ss ++ [x]).map Value.string).set ss.length (.string y) = (ss ++ [y]).map Value.string := by
        simp
      have e3 : (ss ++ [y]).length = ss.length + 1 := by simp
      rw [e, e3, ← e2]
      exact hs.1

end Go.Proofs.YtjoaaehfplcanaaDoor
