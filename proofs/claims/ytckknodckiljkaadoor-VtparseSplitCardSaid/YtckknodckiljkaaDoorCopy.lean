/-
  A slice of events that is copied into a new one.
-/
import Derived.Test.YtckknodckiljkaaDoorKp
namespace Go.Proofs.YtckknodckiljkaaDoor
open Go.RowKit

/-- A slice of events that is copied: what is known of it. -/
def Mk (W w : World) (v : Value) (gs : List G) : Prop := w.ownsRow W.heap.size 33 7 v gs.length (gs.flatMap G.cells) ∧ Below W.heap.size W w
theorem Mk.start (W : World) : Mk W (W.alloc (.cells #[] 33)) (.slice (some ⟨W.heap.size, 0, none⟩) 0 0) [] :=
  ⟨World.ownsRow_made W #[] 0 (Nat.le_refl _) (Nat.zero_le _) rfl, (Below.refl _ _).alloc (Nat.le_refl _) _⟩
/-- Events that lie in a slice, with their places. -/
def At (w : World) (A : Option Addr) (n : Nat) (gs : List G) : Prop :=
  gs.length = n ∧ (∀ j g, gs[j]? = some g → ∃ b off, A = some ⟨b, off, none⟩ ∧ b < w.heap.size ∧ ∀ i v, g.cells[i]? = some v → w.cell? ⟨b, off + (7 * j + i), none⟩ = some v) ∧ ∀ g ∈ gs, Ci.Nums w w.heap.size g.A g.n g.e.ps
theorem Evs.place {w : World} {A : Option Addr} {n : Nat} {es : List Vt.E} (h : Evs w A n es) : ∃ gs, gs.map G.e = es ∧ At w A n gs := by
  obtain ⟨gs, h1, h2, h3, h4⟩ := h
  exact ⟨gs, h1, h2, h3, h4⟩
theorem cells_back (gs : List G) : ∀ (q : Nat) (v : Value), (gs.flatMap G.cells)[q]? = some v → ∃ j i g, q = 7 * j + i ∧ gs[j]? = some g ∧ g.cells[i]? = some v := by
  induction gs with
  | nil => intro q v h; simp at h
  | cons a gs ih =>
    intro q v h
    rw [List.flatMap_cons] at h
    rcases Nat.lt_or_ge q 7 with hq | hq
    · rw [List.getElem?_append_left (by rw [G.cells_len]; exact hq)] at h
      exact ⟨0, q, a, by omega, rfl, h⟩
    · rw [List.getElem?_append_right (by rw [G.cells_len]; exact hq), G.cells_len] at h
      obtain ⟨j, i, g, e, hj, hi⟩ := ih _ v h
      exact ⟨j + 1, i, g, by omega, by simpa using hj, hi⟩
theorem At.read {W w : World} {A : Option Addr} {n c : Nat} {gs : List G} (h : Mk W w (.slice A n c) gs) (hp : ∀ g ∈ gs, Ci.Nums W W.heap.size g.A g.n g.e.ps) : Evs w A n (gs.map G.e) := by
  have hn : n = gs.length := by
    rcases h.1.2 with ⟨e, e0⟩ | ⟨b, cap, cur, e, _⟩
    · injection e with _ e2; omega
    · injection e with _ e2
  refine ⟨gs, rfl, hn.symm, fun j g hj => ?_, fun g hg => ((hp g hg).below h.2 (Nat.le_refl _)).more h.2.size⟩
  have hjl : j < gs.length := by
    rcases Nat.lt_or_ge j gs.length with h | h
    · exact h
    · rw [List.getElem?_eq_none h] at hj; cases hj
  rcases h.1.2 with ⟨_, e0⟩ | ⟨b, cap, cur, e, _, hh, _⟩
  · omega
  · injection e with e1 e2 e3
    subst e1
    refine ⟨b, 0, rfl, (Array.getElem?_eq_some_iff.1 hh).1, fun i v hv => ?_⟩
    have := h.1.cells (g := b) rfl (7 * j + i) v (cells_at gs j i g v hj hv)
    have hadd : (⟨b, 0, none⟩ : Addr).add (7 * j + i) = ⟨b, 0 + (7 * j + i), none⟩ := by
      unfold Addr.add
      rw [Nat.zero_add]
      split
      · rename_i h0; rw [h0]
      · rfl
    rw [hadd] at this
    exact this
set_option maxRecDepth 100000 in
/-- append of events that lie in older blocks. -/
theorem wpList_copy {ops : Array Oper} {rest : List Oper} {o : Oper} {a : Act} {Q : Exit → Act → World → Prop} (hgd : o.guard = none) (s x : Operand)
    (ho : o.op = .call { callee := .builtin .append, args := #[s, x], argTypes := #[26, 26] })
    (W w : World) (v : Value) (gs fs : List G) (A : Option Addr) (m c : Nat) (hs : a.eval s = v) (hx : a.eval x = .slice A m c) (hm : Mk W w v gs) (hf : At W A m fs) (hnil : A = none → m = 0 ∧ c = 0) (hl : gs.length + fs.length ≤ 100000)
    (h : ∀ (A' : Option Addr) (n' c' : Nat) w', Aside (Mk W w' (.slice A' n' c') (gs ++ fs)) → wpList Tryd.prog ops Q rest (a.put o.dst (.slice A' n' c')) w') : wpList Tryd.prog ops Q (o :: rest) a w := by
  obtain ⟨i0, hi, hz0, hz1, hz2⟩ := info_parts Tryd.infoEvent
  have hsz := hm.2.size
  have fin : ∀ v' w', Mk W w' v' (gs ++ fs) → ∃ A' n' c', v' = .slice A' n' c' := fun v' w' hh => by
    rcases hh.1.2 with ⟨e, _⟩ | ⟨b, cap, cur, e, _⟩
    · exact ⟨_, _, _, e⟩
    · exact ⟨_, _, _, e⟩
  cases A with
  | none =>
    obtain ⟨rfl, rfl⟩ := hnil rfl
    have hy : fs = [] := List.eq_nil_of_length_eq_zero hf.1
    subst hy
    refine wpList_append_own_none hgd s x 26 ho W.heap.size 33 i0 7 Tryd.underlying26 hi v gs.length (gs.flatMap G.cells) hs hm.1 hx ?_
    rw [List.append_nil] at h fin
    obtain ⟨A', n', c', e⟩ := fin v w hm
    subst e
    exact h A' n' c' w hm
  | some ad =>
    refine wpList_append_own _ hgd s x 26 ho W.heap.size 33 i0 _ 7 72 Tryd.underlying26 hi hz0 hz1 hz2 rfl (by decide) v gs.length (gs.flatMap G.cells) hs hm.1 ad m c (fs.flatMap G.cells) hx (by rw [cells_all, hf.1]) ?_ ?_ ?_ ?_ ?_ ?_
    · intro q u hq
      obtain ⟨j, i, g, e, hj, hv⟩ := cells_back fs q u hq
      subst e
      obtain ⟨b, off, e, hb, hc⟩ := hf.2.1 j g hj
      injection e with e
      subst e
      have hc' := (hm.2.cell (p := ⟨b, off + (7 * j + i), none⟩) hb).trans (hc i u hv)
      have hadd : (⟨b, off, none⟩ : Addr).add (7 * j + i) = ⟨b, off + (7 * j + i), none⟩ := by
        unfold Addr.add
        split
        · rename_i h0; rw [h0]; rfl
        · rfl
      rw [hadd]
      exact hc'
    · intro u hu
      rw [List.mem_flatMap] at hu
      obtain ⟨g, _, hu⟩ := hu
      simp only [G.cells, List.mem_cons, List.not_mem_nil, or_false] at hu
      rcases hu with rfl | rfl | rfl | rfl | rfl | rfl | rfl <;> rfl
    · have := hf.1
      unfold maxLen; omega
    · have := hf.1
      omega
    · exact hsz
    · intro v' w' hown hgrow _
      have hM : Mk W w' v' (gs ++ fs) := by
        refine ⟨?_, hm.2.grown hgrow hsz (fun k hk => (hm.1.lt k hk).1)⟩
        rw [List.length_append, List.flatMap_append, hf.1]
        exact hown
      obtain ⟨A', n', c', e⟩ := fin v' w' hM
      subst e
      exact h A' n' c' w' hM

end Go.Proofs.YtckknodckiljkaaDoor
