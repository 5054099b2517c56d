/-
  The memory of csiparam's function values while it is under way: the variable with the parameters, the value, and the row of numbers; what the function that collects a parameter does to them.
-/
import Derived.Test.YtihfjkjbeeoanaaDoorCsSmall
namespace Go.Proofs.YtihfjkjbeeoanaaDoor.Ci
open Go.RowKit Go.Shelf

/-- The variables of the call that began in w0 lie at g and g + 1; the parameters so far are ps, and the value is c. -/
def St (w0 : World) (g : Nat) (w : World) (v : Value) (ps : List Int) (c : Int) : Prop :=
  (w.heap[g]? = some (.cells #[v] 31) ∧ w.heap[g + 1]? = some (.cells #[.int .i64 c] 3)) ∧
  w.ownsRow (g + 2) 3 1 v ps.length (ps.map (Value.int .i64)) ∧ Below g w0 w

theorem lt_of_heap {w : World} {k : Nat} {x : Obj} (h : w.heap[k]? = some x) : k < w.heap.size := by
  rcases Nat.lt_or_ge k w.heap.size with h' | h'
  · exact h'
  · rw [Array.getElem?_eq_none h'] at h; cases h
theorem St.lt {w0 : World} {g : Nat} {w : World} {v : Value} {ps : List Int} {c : Int} (h : St w0 g w v ps c) : g + 1 < w.heap.size := lt_of_heap h.1.2
theorem St.cellP {w0 : World} {g : Nat} {w : World} {v : Value} {ps : List Int} {c : Int} (h : St w0 g w v ps c) : w.cell? ⟨g, 0, none⟩ = some v ∧ w.frozen? ⟨g, 0, none⟩ = false :=
  ⟨cell_of_row w g 0 _ _ _ h.1.1, frozen_of_row w g 0 _ _ h.1.1⟩
theorem St.cellV {w0 : World} {g : Nat} {w : World} {v : Value} {ps : List Int} {c : Int} (h : St w0 g w v ps c) : w.cell? ⟨g + 1, 0, none⟩ = some (.int .i64 c) ∧ w.frozen? ⟨g + 1, 0, none⟩ = false :=
  ⟨cell_of_row w (g + 1) 0 _ _ _ h.1.2, frozen_of_row w (g + 1) 0 _ _ h.1.2⟩
theorem St.below {w0 : World} {g : Nat} {w w' : World} {v : Value} {ps : List Int} {c : Int} (h : St w0 g w v ps c) (hb : Below w.heap.size w w') : St w0 g w' v ps c := by
  have hl := h.lt
  exact ⟨⟨(hb.block g (by omega)).trans h.1.1, (hb.block (g + 1) hl).trans h.1.2⟩, owns_below h.2.1 hb, h.2.2.trans (hb.mono (by omega))⟩
theorem St.alloc {w0 : World} {g : Nat} {w : World} {v : Value} {ps : List Int} {c : Int} (h : St w0 g w v ps c) (o : Obj) : St w0 g (w.alloc o) v ps c :=
  h.below ((Below.refl _ _).alloc (Nat.le_refl _) o)
theorem St.drewN {w0 : World} {g : Nat} {w : World} {v : Value} {ps : List Int} {c : Int} (h : St w0 g w v ps c) (n : Nat) : St w0 g (w.drewN n) v ps c :=
  h.below (below_drewN (Below.refl _ _) n)
theorem St.drew {w0 : World} {g : Nat} {w : World} {v : Value} {ps : List Int} {c : Int} (h : St w0 g w v ps c) : St w0 g w.drew v ps c :=
  h.below (Below.refl _ _).drew
/-- The value is set. -/
theorem St.setV {w0 : World} {g : Nat} {w : World} {v : Value} {ps : List Int} {c : Int} (h : St w0 g w v ps c) (c' : Int) : St w0 g (w.setCell ⟨g + 1, 0, none⟩ (.int .i64 c')) v ps c' := by
  have e : ∀ k, k ≠ g + 1 → (w.setCell ⟨g + 1, 0, none⟩ (.int .i64 c')).heap[k]? = w.heap[k]? := fun k hk => heap_setCell_other w ⟨g + 1, 0, none⟩ k _ hk
  refine ⟨⟨(e g (by omega)).trans h.1.1, heap_setCell_same w (g + 1) 0 _ _ _ h.1.2⟩, ?_, h.2.2.setCell (by show g ≤ g + 1; omega) _⟩
  have hg : w.grownBy (w.setCell ⟨g + 1, 0, none⟩ (.int .i64 c')) (some (g + 1)) := ⟨rfl, rfl, rfl, by simp, fun k _ hk => e k (fun c => hk (by rw [c]))⟩
  refine h.2.1.kept hg ?_
  cases hv : v.ownBlock with
  | none => exact .inl rfl
  | some k =>
    right
    have := (h.2.1.lt k hv).1
    intro c
    injection c with c
    omega
/-- The row has grown by one number, and the variable is set to it. -/
theorem St.grown {w0 : World} {g : Nat} {w w1 : World} {v v' : Value} {ps : List Int} {z c : Int} (h : St w0 g w v ps c) (hown : w1.ownsRow (g + 2) 3 1 v' (ps.length + 1) (ps.map (Value.int .i64) ++ [.int .i64 z])) (hgr : w.grownBy w1 v.ownBlock) :
    St w0 g (w1.setCell ⟨g, 0, none⟩ v') v' (ps ++ [z]) c := by
  have hl := h.lt
  have hne : ∀ k, k < g + 2 → some k ≠ v.ownBlock := fun k hk c => by
    have := (h.2.1.lt k c.symm).1
    omega
  have e1 : ∀ k, k < g + 2 → w1.heap[k]? = w.heap[k]? := fun k hk => hgr.block k (by omega) (hne k hk)
  have e : ∀ k, k ≠ g → (w1.setCell ⟨g, 0, none⟩ v').heap[k]? = w1.heap[k]? := fun k hk => heap_setCell_other w1 ⟨g, 0, none⟩ k _ hk
  have hc : w1.heap[g]? = some (.cells #[v] 31) := (e1 g (by omega)).trans h.1.1
  refine ⟨⟨heap_setCell_same w1 g 0 _ _ _ hc, ((e (g + 1) (by omega)).trans (e1 (g + 1) (by omega))).trans h.1.2⟩, ?_, ?_⟩
  · have hg : w1.grownBy (w1.setCell ⟨g, 0, none⟩ v') (some g) := ⟨rfl, rfl, rfl, by simp, fun k _ hk => e k (fun c => hk (by rw [c]))⟩
    have hown2 : w1.ownsRow (g + 2) 3 1 v' (ps ++ [z]).length ((ps ++ [z]).map (Value.int .i64)) := by simpa using hown
    refine hown2.kept hg ?_
    cases hv : v'.ownBlock with
    | none => exact .inl rfl
    | some k =>
      right
      have := (hown2.lt k hv).1
      intro c
      injection c with c
      omega
  · exact (h.2.2.grown hgr (by omega) (fun k hk => by have := (h.2.1.lt k hk).1; omega)).setCell (by show g ≤ g; omega) _
/-- The variables behind an append to the row. -/
theorem St.vars {w0 : World} {g : Nat} {w w1 : World} {v : Value} {ps : List Int} {c : Int} (h : St w0 g w v ps c) (hgr : w.grownBy w1 v.ownBlock) :
    w1.cell? ⟨g, 0, none⟩ = some v ∧ w1.frozen? ⟨g, 0, none⟩ = false ∧ w1.cell? ⟨g + 1, 0, none⟩ = some (.int .i64 c) ∧ w1.frozen? ⟨g + 1, 0, none⟩ = false := by
  have hl := h.lt
  have hne : ∀ k, k < g + 2 → some k ≠ v.ownBlock := fun k hk c => by
    have := (h.2.1.lt k c.symm).1
    omega
  have e1 : ∀ k, k < g + 2 → w1.heap[k]? = w.heap[k]? := fun k hk => hgr.block k (by omega) (hne k hk)
  have c1 := (e1 g (by omega)).trans h.1.1
  have c2 := (e1 (g + 1) (by omega)).trans h.1.2
  exact ⟨cell_of_row w1 g 0 _ _ _ c1, frozen_of_row w1 g 0 _ _ c1, cell_of_row w1 (g + 1) 0 _ _ _ c2, frozen_of_row w1 (g + 1) 0 _ _ c2⟩

/-- append, to the row, of one number that was just laid. -/
theorem wpList_pushSt {ops : Array Oper} {rest : List Oper} {o : Oper} {a : Act} {Q : Exit → Act → World → Prop} (hgd : o.guard = none) (s x : Operand)
    (ho : o.op = .call { callee := .builtin .append, args := #[s, x], argTypes := #[31, 31] })
    (w0 : World) (g : Nat) (w : World) (v : Value) (ps : List Int) (c z : Int) (hs : a.eval s = v) (hx : a.eval x = .slice (some ⟨w.heap.size, 0, none⟩) 1 1) (hst : St w0 g w v ps c) (hl : ps.length ≤ 100000)
    (h : ∀ (A' : Option Addr) (n' cap' : Nat) w1, w1.cell? ⟨g, 0, none⟩ = some v → w1.frozen? ⟨g, 0, none⟩ = false → w1.cell? ⟨g + 1, 0, none⟩ = some (.int .i64 c) → w1.frozen? ⟨g + 1, 0, none⟩ = false → Aside (St w0 g (w1.setCell ⟨g, 0, none⟩ (.slice A' n' cap')) (.slice A' n' cap') (ps ++ [z]) c) → wpList Tryd.prog ops Q rest (a.put o.dst (.slice A' n' cap')) w1) :
    wpList Tryd.prog ops Q (o :: rest) a (w.alloc (.cells #[.int .i64 z] 3)) := by
  obtain ⟨i0, hi, hz0, hz1, hz2⟩ := info_parts Tryd.infoInt
  have hlt := hst.lt
  have hst' := hst.alloc (.cells #[.int .i64 z] 3)
  refine wpList_append_own _ hgd s x 31 ho (g + 2) 3 i0 (.int .i64 0) 1 8 Tryd.underlying31 hi hz0 hz1 hz2 rfl (by decide) v ps.length (ps.map (Value.int .i64)) hs hst'.2.1 ⟨w.heap.size, 0, none⟩ 1 1 [.int .i64 z] hx rfl ?_ ?_ ?_ ?_ ?_ ?_
  · intro j u hj
    match j, hj with
    | 0, hj => simp at hj; subst hj; simp [Addr.add]
  · intro u hu; simp at hu; subst hu; rfl
  · unfold maxLen; omega
  · omega
  · simp; omega
  · intro v' w1 hown hgrow _
    obtain ⟨k1, k2, k3, k4⟩ := hst'.vars hgrow
    have hs' : ∃ (A' : Option Addr) (n' cap' : Nat), v' = .slice A' n' cap' := by
      rcases hown.2 with ⟨e, _⟩ | ⟨gg, cap, cur, e, _⟩
      · exact ⟨_, _, _, e⟩
      · exact ⟨_, _, _, e⟩
    obtain ⟨A', n', cap', rfl⟩ := hs'
    exact h A' n' cap' w1 k1 k2 k3 k4 (hst'.grown (by simpa using hown) hgrow)

set_option maxHeartbeats 400000 in
set_option maxRecDepth 100000 in
theorem collect_any (w0 : World) (g : Nat) (w : World) (v : Value) (ps : List Int) (c : Int) (h : St w0 g w v ps c) (hl : ps.length ≤ 10000) :
    Calls Tryd.prog 53 #[.pointer (some ⟨g, 0, none⟩), .pointer (some ⟨g + 1, 0, none⟩)] w
      fun e w' => e = .returned (.tuple #[]) ∧ ∃ v', St w0 g w' v' (ps ++ [c]) (-1) := by
  obtain ⟨hc1, hc2⟩ := h.cellP
  obtain ⟨hv1, hv2⟩ := h.cellV
  have HS := Lib.hid h
  clear h
  go_enter Tryd.func53, Tryd.ntmps53
  go_wp2_with (at_builtin; refine wpList_pushSt rfl (.tmp 2) (.tmp 4) rfl w0 g _ _ ps c c rfl rfl HS.out (by omega) ?_; intro A' n' cap' w1 k1 k2 k3 k4 hst)
  first | go_end0 | refine bodyPost_ret (results_none rfl _ _ _) rfl ?_
  exact ⟨rfl, _, hst.out.setV (-1)⟩

end Go.Proofs.YtihfjkjbeeoanaaDoor.Ci
