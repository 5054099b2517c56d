/-
  What Feed and Idle of vtparse return.
-/
import Derived.Test.YtihfjkjbeeoanaaDoorProper
namespace Go.Proofs.YtihfjkjbeeoanaaDoor
open Go.RowKit

/-- The slice v holds the events es, in blocks from lo on. -/
def OutR (lo : Nat) (w : World) (v : Value) (es : List Vt.E) : Prop :=
  ∃ gs : List G, gs.map G.e = es ∧ w.ownsRow lo 33 7 v gs.length (gs.flatMap G.cells) ∧ ∀ g ∈ gs, Par w lo v.ownBlock g
theorem OutE.row {w0 w : World} {v : Value} {es : List Vt.E} (h : OutE w0 w v es) : OutR w0.heap.size w v es := by
  obtain ⟨gs, h1, h2, h3, h4⟩ := h
  exact ⟨gs, h1, h2, h3⟩
theorem OutR.out {w0 w : World} {v : Value} {es : List Vt.E} (h : OutR w0.heap.size w v es) (hb : Below w0.heap.size w0 w) : OutE w0 w v es := by
  obtain ⟨gs, h1, h2, h3⟩ := h
  exact ⟨gs, h1, h2, h3, hb⟩
theorem OutR.start (lo : Nat) (w : World) : OutR lo w (.slice none 0 0) [] := ⟨[], rfl, World.ownsRow_nil _ _ _ _, (fun g hg => by cases hg)⟩
theorem OutR.less {lo lo' : Nat} {w : World} {v : Value} {es : List Vt.E} (h : OutR lo w v es) (hl : lo' ≤ lo) : OutR lo' w v es := by
  obtain ⟨gs, h1, h2, h3⟩ := h
  refine ⟨gs, h1, ⟨h2.1, ?_⟩, fun g hg => (h3 g hg).less hl⟩
  rcases h2.2 with hn | ⟨g, cap, cur, rfl, hbase, rest⟩
  · exact .inl hn
  · exact .inr ⟨g, cap, cur, rfl, by omega, rest⟩
theorem OutR.below {lo : Nat} {w w' : World} {v : Value} {es : List Vt.E} (h : OutR lo w v es) (hb : Below w.heap.size w w') : OutR lo w' v es := by
  obtain ⟨gs, h1, h2, h3⟩ := h
  exact ⟨gs, h1, owns_below h2 hb, fun g hg => (h3 g hg).below hb⟩
theorem OutR.set {lo k o : Nat} {w : World} {v : Value} {es : List Vt.E} (h : OutR lo w v es) (hk : k < lo) (x : Value) : OutR lo (w.setCell ⟨k, o, none⟩ x) v es := by
  obtain ⟨gs, h1, h2, h3⟩ := h
  refine ⟨gs, h1, ⟨h2.1, ?_⟩, fun g hg => ⟨(h3 g hg).1, fun j hj => ?_⟩⟩
  · rcases h2.2 with hn | ⟨g, cap, cur, rfl, hbase, hh, rest⟩
    · exact .inl hn
    · exact .inr ⟨g, cap, cur, rfl, hbase, (World.set_heap w k g o x (by omega)).trans hh, rest⟩
  · obtain ⟨b, off, e, h5, h6, h7, hc⟩ := (h3 g hg).2 j hj
    refine ⟨b, off, e, h5, by simpa using h6, h7, ?_⟩
    have hh := World.set_heap w k b o x (by omega)
    unfold World.cell? at hc ⊢
    simp only [hh]
    exact hc
theorem OutR.fill {lo k : Nat} {w : World} {v : Value} {es : List Vt.E} (h : OutR lo w v es) (hk : k < lo) (a b c : Value) : OutR lo (((w.setCell ⟨k, 0, none⟩ a).setCell ⟨k, 1, none⟩ b).setCell ⟨k, 2, none⟩ c) v es := ((h.set hk a).set hk b).set hk c
theorem OutR.own {lo : Nat} {w : World} {v : Value} {es : List Vt.E} (h : OutR lo w v es) : ∀ k, v.ownBlock = some k → lo ≤ k ∧ k < w.heap.size := by
  obtain ⟨gs, _, h2, _⟩ := h
  exact h2.lt
theorem OutR.len {lo : Nat} {w : World} {A : Option Addr} {n c : Nat} {es : List Vt.E} (h : OutR lo w (.slice A n c) es) : n = es.length ∧ (A = none → n = 0 ∧ c = 0) := by
  obtain ⟨gs, rfl, h2, _⟩ := h
  rw [List.length_map]
  rcases h2.2 with ⟨e, e0⟩ | ⟨g, cap, cur, e, _⟩
  · injection e with e1 e2 e3
    exact ⟨by omega, fun _ => ⟨e2, e3⟩⟩
  · injection e with e1 e2
    refine ⟨e2, fun e => ?_⟩
    rw [e] at e1
    cases e1

theorem OutR.slice {lo : Nat} {w : World} {v : Value} {es : List Vt.E} (h : OutR lo w v es) : ∃ A cap, v = .slice A es.length cap ∧ (A = none → es.length = 0 ∧ cap = 0) := by
  obtain ⟨gs, rfl, h2, _⟩ := h
  rw [List.length_map]
  rcases h2.2 with ⟨e, e0⟩ | ⟨g, cap, cur, e, _⟩
  · rw [e0]; exact ⟨none, 0, e, fun _ => ⟨rfl, rfl⟩⟩
  · exact ⟨_, cap, e, fun e => by cases e⟩
/-- append of a slice of events whose blocks are newer. -/
theorem run_joinR (ty : TypeId) (lo m1 : Nat) (w : World) (v : Value) (es fs : List Vt.E) (A : Option Addr) (m c : Nat) (hV : OutR lo w v es) (hf : OutR m1 w (.slice A m c) fs) (hlw : lo ≤ w.heap.size) (hl1 : lo ≤ m1) (hvl : ∀ k, v.ownBlock = some k → k < m1) (hl : es.length + fs.length ≤ 100000) :
    ∃ (A' : Option Addr) (n' c' : Nat) (w' : World), (Builtin.append_ #[26, 26] ty #[v, .slice A m c]).run Tryd.prog w = .ok (.slice A' n' c') w' ∧ OutR lo w' (.slice A' n' c') (es ++ fs) ∧ w.grownBy w' v.ownBlock := by
  obtain ⟨i0, hi, hz0, hz1, hz2⟩ := info_parts Tryd.infoEvent
  obtain ⟨hm, hnil⟩ := hf.len
  obtain ⟨gs, rfl, h2, h3⟩ := hV
  obtain ⟨fs', rfl, k2, k3⟩ := hf
  rw [List.length_map, List.length_map] at hl
  rw [List.length_map] at hm
  cases A with
  | none =>
    obtain ⟨rfl, rfl⟩ := hnil rfl
    have hy : fs' = [] := List.eq_nil_of_length_eq_zero hm.symm
    subst hy
    have hrun := run_append_owned_none (P := Tryd.prog) (w := w) lo 26 ty 33 i0 7 Tryd.underlying26 hi v gs.length (gs.flatMap G.cells) h2
    have hO : OutR lo w v (gs.map G.e ++ [].map G.e) := ⟨gs, by simp, h2, h3⟩
    obtain ⟨A', c', e, _⟩ := hO.slice
    refine ⟨A', _, c', w, by rw [hrun]; exact congrArg (fun x => Result.ok x w) e, by rw [← e]; exact hO, ⟨rfl, rfl, rfl, Nat.le_refl _, fun _ _ _ => rfl⟩⟩
  | some ad =>
    have hk : ∃ g0 cap : Nat, Value.slice (some ad) m c = .slice (some ⟨g0, 0, none⟩) m cap ∧ m1 ≤ g0 := by
      rcases k2.2 with ⟨e, _⟩ | ⟨g0, cap, cur, e, hb0, _⟩
      · injection e with e1; cases e1
      · exact ⟨g0, cap, by rw [hm]; rw [hm] at e; exact e, hb0⟩
    obtain ⟨g0, cap, e, hg0⟩ := hk
    injection e with e1 _ e3
    injection e1 with e1
    subst e1 e3
    have kc := k2.cells (g := g0) rfl
    obtain ⟨v', w', hrun, hown, hgrow, _, hat⟩ := run_append_own_at (P := Tryd.prog) w lo 26 ty 33 i0 _ 7 72 Tryd.underlying26 hi hz0 hz1 hz2 rfl (by decide) v gs.length (gs.flatMap G.cells) h2 ⟨g0, 0, none⟩ m c (fs'.flatMap G.cells) (by rw [cells_all, hm]) kc (by
      intro u hu
      rw [List.mem_flatMap] at hu
      obtain ⟨g, _, hu⟩ := hu
      simp only [G.cells, List.mem_cons, List.not_mem_nil, or_false] at hu
      rcases hu with rfl | rfl | rfl | rfl | rfl | rfl | rfl <;> rfl) (by unfold maxLen; omega) (by omega) hlw
    have hO : OutR lo w' v' (gs.map G.e ++ fs'.map G.e) := by
      refine ⟨gs ++ fs', by simp, ?_, fun g hg => ?_⟩
      · rw [List.length_append, List.flatMap_append, ← hm]
        exact hown
      · rw [List.mem_append] at hg
        rcases hg with hg | hg
        · refine (h3 g hg).move hgrow (Nat.le_refl _) (fun b _ hb hne => ⟨hne, ?_⟩)
          rcases hat with e | e
          · rw [e]; exact hne
          · rw [e]; intro e'; injection e' with e'; omega
        · have hno : ∀ b, m1 ≤ b → some b ≠ v.ownBlock := fun b hb e => by
            have := hvl b e.symm
            omega
          refine (k3 g hg).move hgrow hl1 (fun b hlo hb _ => ⟨hno b hlo, ?_⟩)
          rcases hat with e | e
          · rw [e]; exact hno b hlo
          · rw [e]; intro e'; injection e' with e'; omega
    obtain ⟨A', c', e, _⟩ := hO.slice
    subst e
    exact ⟨A', _, c', w', hrun, hO, hgrow⟩
theorem wpList_joinR {ops : Array Oper} {rest : List Oper} {o : Oper} {a : Act} {Q : Exit → Act → World → Prop} (hgd : o.guard = none) (s x : Operand)
    (ho : o.op = .call { callee := .builtin .append, args := #[s, x], argTypes := #[26, 26] })
    (lo m1 : Nat) (w : World) (v : Value) (es fs : List Vt.E) (A : Option Addr) (m c : Nat) (hs : a.eval s = v) (hx : a.eval x = .slice A m c) (hV : OutR lo w v es) (hf : OutR m1 w (.slice A m c) fs) (hlw : lo ≤ w.heap.size) (hl1 : lo ≤ m1) (hvl : ∀ k, v.ownBlock = some k → k < m1) (hl : es.length + fs.length ≤ 100000)
    (h : ∀ (A' : Option Addr) (n' c' : Nat) w', Aside (OutR lo w' (.slice A' n' c') (es ++ fs) ∧ w.grownBy w' v.ownBlock) → wpList Tryd.prog ops Q rest (a.put o.dst (.slice A' n' c')) w') : wpList Tryd.prog ops Q (o :: rest) a w := by
  obtain ⟨A', n', c', w', hrun, hO, hg⟩ := run_joinR o.type lo m1 w v es fs A m c hV hf hlw hl1 hvl hl
  refine wpList_plain hgd fun K hK => ?_
  unfold Oper.wp
  simp [execOp, ho, resolve, invoke, builtin, hs, hx, hrun, Result.andThen]
  exact hK _ _ (h A' n' c' w' ⟨hO, hg⟩)
theorem Bg.grown {w W W' : World} {p : Vt.P} {row : Option Nat} (h : Bg w W p) (hg : W.grownBy W' row) (hr : ∀ k, row = some k → w.heap.size + 2 ≤ k) : Bg w W' p :=
  ⟨h.1.grown hg (fun e => by have := hr _ e.symm; omega), h.2.1.grown hg (fun e => by have := hr _ e.symm; omega), h.2.2.grown hg h.2.2.size (fun k hk => by have := hr k hk; omega)⟩

end Go.Proofs.YtihfjkjbeeoanaaDoor
