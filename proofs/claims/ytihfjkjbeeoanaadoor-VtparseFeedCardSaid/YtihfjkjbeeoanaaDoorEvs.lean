/-
  Parsers and events in memory: what is known of a parser in a block, of a slice of events that a call makes, and how an append carries it on.
-/
import Derived.Test.YtihfjkjbeeoanaaDoorOut
import Derived.Test.YtihfjkjbeeoanaaDoorNums
import Derived.Test.YtihfjkjbeeoanaaDoorVtMath
import Derived.Maps.AppendAt
namespace Go.Proofs.YtihfjkjbeeoanaaDoor
open Go.RowKit

def ba (l : List UInt8) : ByteArray := ⟨l.toArray⟩
theorem ba_list (l : List UInt8) : (ba l).data.toList = l := by simp [ba]
theorem ba_size (l : List UInt8) : (ba l).size = l.length := by rw [Lib.size_eq, ba_list]
theorem ba_of (s : ByteArray) : ba s.data.toList = s := by cases s; simp [ba]
theorem ba_app (a b : List UInt8) : ba a ++ ba b = ba (a ++ b) := by
  have : (ba a ++ ba b).data.toList = a ++ b := by simp [ByteArray.data_append, ba]
  rw [← ba_of (ba a ++ ba b), this]
theorem ba_inj {a b : List UInt8} (h : ba a = ba b) : a = b := by rw [← ba_list a, ← ba_list b, h]

/-- The parser p lies in block k. -/
def Pk (w : World) (k : Nat) (p : Vt.P) : Prop := w.heap[k]? = some (.cells #[.int .i64 p.st, .string (ba p.pe), .string (ba p.bu)] 23)
theorem Pk.lt {w : World} {k : Nat} {p : Vt.P} (h : Pk w k p) : k < w.heap.size := by
  rcases Nat.lt_or_ge k w.heap.size with h' | h'
  · exact h'
  · unfold Pk at h; rw [Array.getElem?_eq_none h'] at h; cases h
theorem Pk.c0 {w : World} {k : Nat} {p : Vt.P} (h : Pk w k p) : w.cell? ⟨k, 0, none⟩ = some (.int .i64 p.st) := cell_of_row w k 0 _ _ _ h
theorem Pk.c1 {w : World} {k : Nat} {p : Vt.P} (h : Pk w k p) : w.cell? ⟨k, 1, none⟩ = some (.string (ba p.pe)) := cell_of_row w k 1 _ _ _ h
theorem Pk.c2 {w : World} {k : Nat} {p : Vt.P} (h : Pk w k p) : w.cell? ⟨k, 2, none⟩ = some (.string (ba p.bu)) := cell_of_row w k 2 _ _ _ h
theorem Pk.z {w : World} {k : Nat} {p : Vt.P} (h : Pk w k p) (j : Nat) : w.frozen? ⟨k, j, none⟩ = false := frozen_of_row w k j _ _ h
theorem Pk.below {w w' : World} {k : Nat} {p : Vt.P} (h : Pk w k p) (hb : Below w.heap.size w w') : Pk w' k p := (hb.block k h.lt).trans h
theorem Pk.other {w : World} {k k' o : Nat} {p : Vt.P} (h : Pk w k p) (hk : k ≠ k') (v : Value) : Pk (w.setCell ⟨k', o, none⟩ v) k p := (heap_setCell_other w ⟨k', o, none⟩ k _ hk).trans h
theorem Pk.s0 {w : World} {k : Nat} {p : Vt.P} (h : Pk w k p) (x : Int) : Pk (w.setCell ⟨k, 0, none⟩ (.int .i64 x)) k ⟨x, p.pe, p.bu⟩ := heap_setCell_same w k 0 _ _ _ h
theorem Pk.s1 {w : World} {k : Nat} {p : Vt.P} (h : Pk w k p) (x : List UInt8) : Pk (w.setCell ⟨k, 1, none⟩ (.string (ba x))) k ⟨p.st, x, p.bu⟩ := heap_setCell_same w k 1 _ _ _ h
theorem Pk.s2 {w : World} {k : Nat} {p : Vt.P} (h : Pk w k p) (x : List UInt8) : Pk (w.setCell ⟨k, 2, none⟩ (.string (ba x))) k ⟨p.st, p.pe, x⟩ := heap_setCell_same w k 2 _ _ _ h
theorem Pk.laid (w : World) (p : Vt.P) : Pk (w.alloc (.cells #[.int .i64 p.st, .string (ba p.pe), .string (ba p.bu)] 23)) w.heap.size p := heap_alloc_new w _
theorem Pk.alloc {w : World} {k : Nat} {p : Vt.P} (h : Pk w k p) (o : Obj) : Pk (w.alloc o) k p := h.below ((Below.refl _ _).alloc (Nat.le_refl _) o)
theorem Pk.drew {w : World} {k : Nat} {p : Vt.P} (h : Pk w k p) : Pk w.drew k p := h

/-- An event as it lies in memory: the event, and where its parameters lie. -/
structure G where
  e : Vt.E
  A : Option Addr
  n : Nat
  c : Nat
def G.cells (g : G) : List Value := [.int .i64 g.e.k, .int .i32 g.e.r, .int .u8 (g.e.c.toNat : Int), .int .u8 (g.e.p.toNat : Int), .string (ba g.e.i), .slice g.A g.n g.c, .string (ba g.e.t)]
theorem G.cells_len (g : G) : g.cells.length = 7 := rfl
theorem cells_all (gs : List G) : (gs.flatMap G.cells).length = gs.length * 7 := by
  induction gs with
  | nil => rfl
  | cons g gs ih => rw [List.flatMap_cons, List.length_append, ih, G.cells_len, List.length_cons]; omega
theorem cells_at (gs : List G) : ∀ (j i : Nat) (g : G) (v : Value), gs[j]? = some g → g.cells[i]? = some v → (gs.flatMap G.cells)[7 * j + i]? = some v := by
  induction gs with
  | nil => intro j i g v h; simp at h
  | cons a gs ih =>
    intro j i g v hj hi
    rw [List.flatMap_cons]
    cases j with
    | zero =>
      have e : a = g := by simpa using hj
      subst e
      have hl : i < a.cells.length := by
        rcases Nat.lt_or_ge i a.cells.length with h | h
        · exact h
        · rw [List.getElem?_eq_none h] at hi; cases hi
      rw [Nat.mul_zero, Nat.zero_add, List.getElem?_append_left hl]
      exact hi
    | succ j =>
      rw [List.getElem?_append_right (by rw [G.cells_len]; omega)]
      have e : 7 * (j + 1) + i - a.cells.length = 7 * j + i := by rw [G.cells_len]; omega
      rw [e]
      exact ih j i g v (by simpa using hj) hi

/-- The parameters of an event lie in blocks from lo on, not in the block ob. -/
def Par (w : World) (lo : Nat) (ob : Option Nat) (g : G) : Prop :=
  g.e.ps.length = g.n ∧ ∀ j, j < g.n → ∃ b off, g.A = some ⟨b, off, none⟩ ∧ lo ≤ b ∧ b < w.heap.size ∧ some b ≠ ob ∧ w.cell? ⟨b, off + j, none⟩ = some (.int .i64 (g.e.ps.getD j 0))
theorem Par.below {w w' : World} {lo : Nat} {ob : Option Nat} {g : G} (h : Par w lo ob g) (hb : Below w.heap.size w w') : Par w' lo ob g :=
  ⟨h.1, fun j hj => by
    obtain ⟨b, off, e, h1, h2, h3, hc⟩ := h.2 j hj
    exact ⟨b, off, e, h1, Nat.lt_of_lt_of_le h2 hb.size, h3, (hb.cell (p := ⟨b, off + j, none⟩) h2).trans hc⟩⟩
theorem Par.less {w : World} {lo lo' : Nat} {ob : Option Nat} {g : G} (h : Par w lo ob g) (hl : lo' ≤ lo) : Par w lo' ob g :=
  ⟨h.1, fun j hj => by
    obtain ⟨b, off, e, h1, h2, h3, hc⟩ := h.2 j hj
    exact ⟨b, off, e, by omega, h2, h3, hc⟩⟩
theorem Par.none {w : World} {lo : Nat} {ob : Option Nat} {g : G} (h : g.e.ps = []) (hn : g.n = 0) : Par w lo ob g := ⟨by rw [h, hn]; rfl, fun j hj => by omega⟩
theorem Par.nums {w : World} {lo : Nat} {ob : Option Nat} {g : G} (h : Par w lo ob g) : Ci.Nums w w.heap.size g.A g.n g.e.ps :=
  ⟨h.1, fun j hj => by
    obtain ⟨b, off, e, h1, h2, h3, hc⟩ := h.2 j hj
    exact ⟨b, off, e, h2, hc⟩⟩
theorem Par.move {w w' : World} {lo lo' : Nat} {ob ob' row : Option Nat} {g : G} (h : Par w lo ob g) (hg : w.grownBy w' row) (hl : lo' ≤ lo) (hne : ∀ b, lo ≤ b → b < w.heap.size → some b ≠ ob → some b ≠ row ∧ some b ≠ ob') : Par w' lo' ob' g :=
  ⟨h.1, fun j hj => by
    obtain ⟨b, off, e, h1, h2, h3, hc⟩ := h.2 j hj
    exact ⟨b, off, e, by omega, Nat.lt_of_lt_of_le h2 hg.size, (hne b h1 h2 h3).2, hg.cell hc (hne b h1 h2 h3).1⟩⟩

theorem Tryd.infoEvent : (Tryd.prog.info? 33).map (fun i => (i.zero, i.size, i.bytes)) = some (some (.agg #[.int .i64 0, .int .i32 0, .int .u8 0, .int .u8 0, .string ⟨#[]⟩, .slice none 0 0, .string ⟨#[]⟩]), 7, 72) := by kernel_rfl

/-- The call that began in w0 has made, so far, the events es, in the slice v. -/
def OutE (w0 w : World) (v : Value) (es : List Vt.E) : Prop :=
  ∃ gs : List G, gs.map G.e = es ∧ w.ownsRow w0.heap.size 33 7 v gs.length (gs.flatMap G.cells) ∧ (∀ g ∈ gs, Par w w0.heap.size v.ownBlock g) ∧ Below w0.heap.size w0 w
theorem OutE.start (w : World) : OutE w w (.slice none 0 0) [] := ⟨[], rfl, World.ownsRow_nil _ _ _ _, (fun g hg => by cases hg), Below.refl _ _⟩
theorem OutE.low {w0 w : World} {v : Value} {es : List Vt.E} (h : OutE w0 w v es) : Below w0.heap.size w0 w := by obtain ⟨gs, _, _, _, h⟩ := h; exact h
theorem OutE.below {w0 w w' : World} {v : Value} {es : List Vt.E} (h : OutE w0 w v es) (hb : Below w.heap.size w w') : OutE w0 w' v es := by
  obtain ⟨gs, h1, h2, h3, h4⟩ := h
  exact ⟨gs, h1, owns_below h2 hb, fun g hg => (h3 g hg).below hb, h4.trans (hb.mono h4.size)⟩
theorem OutE.alloc {w0 w : World} {v : Value} {es : List Vt.E} (h : OutE w0 w v es) (o : Obj) : OutE w0 (w.alloc o) v es := h.below ((Below.refl _ _).alloc (Nat.le_refl _) o)
theorem OutE.drew {w0 w : World} {v : Value} {es : List Vt.E} (h : OutE w0 w v es) : OutE w0 w.drew v es := h.below (Below.refl _ _).drew
theorem OutE.rebase {w0 w1 w : World} {v : Value} {es : List Vt.E} (h : OutE w1 w v es) (hb : Below w0.heap.size w0 w1) : OutE w0 w v es := by
  obtain ⟨gs, h1, h2, h3, h4⟩ := h
  refine ⟨gs, h1, ⟨h2.1, ?_⟩, fun g hg => (h3 g hg).less hb.size, hb.trans (h4.mono hb.size)⟩
  rcases h2.2 with hn | ⟨g, cap, cur, rfl, hbase, rest⟩
  · exact .inl hn
  · exact .inr ⟨g, cap, cur, rfl, Nat.le_trans hb.size hbase, rest⟩
theorem OutE.slice {w0 w : World} {v : Value} {es : List Vt.E} (h : OutE w0 w v es) : ∃ A cap, v = .slice A es.length cap ∧ (A = none → es.length = 0 ∧ cap = 0) := by
  obtain ⟨gs, rfl, h2, _⟩ := h
  rw [List.length_map]
  rcases h2.2 with ⟨e, e0⟩ | ⟨g, cap, cur, e, _⟩
  · rw [e0]; exact ⟨none, 0, e, fun _ => ⟨rfl, rfl⟩⟩
  · exact ⟨_, cap, e, fun e => by cases e⟩
theorem OutE.len {w0 w : World} {A : Option Addr} {n c : Nat} {es : List Vt.E} (h : OutE w0 w (.slice A n c) es) : n = es.length ∧ (A = none → n = 0 ∧ c = 0) := by
  obtain ⟨A', c', e, h'⟩ := h.slice
  injection e with e1 e2 e3
  subst e1 e2 e3
  exact ⟨rfl, h'⟩
/-- One event that was just laid. -/
theorem OutE.one (w0 w : World) (g : G) (hb : Below w0.heap.size w0 w) (hp : Par w w0.heap.size none g) (cs : Array Value) (hcs : g.cells.toArray = cs) : OutE w0 (w.alloc (.cells cs 33)) (.slice (some ⟨w.heap.size, 0, none⟩) 1 1) [g.e] := by
  subst hcs
  have hb' := (Below.refl w.heap.size w).alloc (Nat.le_refl _) (.cells g.cells.toArray 33)
  refine ⟨[g], rfl, ⟨rfl, .inr ⟨w.heap.size, 1, g.cells.toArray, rfl, hb.size, heap_alloc_new w _, Nat.le_refl _, by unfold maxLen; omega, rfl, rfl⟩⟩, fun g' hg => ?_, hb.trans (hb'.mono hb.size)⟩
  have e : g' = g := by simpa using hg
  subst e
  refine ⟨hp.1, fun j hj => ?_⟩
  obtain ⟨b, off, e, h1, h2, h3, hc⟩ := hp.2 j hj
  refine ⟨b, off, e, h1, Nat.lt_of_lt_of_le h2 hb'.size, ?_, (hb'.cell (p := ⟨b, off + j, none⟩) h2).trans hc⟩
  intro e
  simp [Value.ownBlock] at e
  omega

/-- append of a slice of events that a later call made. -/
theorem run_joinE (ty : TypeId) (w0 w1 w : World) (v : Value) (es fs : List Vt.E) (A : Option Addr) (m c : Nat) (hv : OutE w0 w1 v es) (hf : OutE w1 w (.slice A m c) fs) (hl : es.length + fs.length ≤ 100000) :
    ∃ (A' : Option Addr) (n' c' : Nat) (w' : World), (Builtin.append_ #[26, 26] ty #[v, .slice A m c]).run Tryd.prog w = .ok (.slice A' n' c') w' ∧ OutE w0 w' (.slice A' n' c') (es ++ fs) ∧ w.grownBy w' v.ownBlock ∧ ∀ k, v.ownBlock = some k → w0.heap.size ≤ k := by
  obtain ⟨i0, hi, hz0, hz1, hz2⟩ := info_parts Tryd.infoEvent
  have hvl : ∀ k, v.ownBlock = some k → k < w1.heap.size := by
    obtain ⟨gs, _, h2, _⟩ := hv
    exact fun k hk => (h2.lt k hk).2
  have hsz1 := hv.low.size
  have hV := hv.below hf.low
  obtain ⟨hm, hnil⟩ := hf.len
  obtain ⟨gs, rfl, h2, h3, h4⟩ := hV
  obtain ⟨fs', rfl, k2, k3, k4⟩ := hf
  rw [List.length_map, List.length_map] at hl
  rw [List.length_map] at hm
  have hlo : ∀ k, v.ownBlock = some k → w0.heap.size ≤ k := fun k hk => (h2.lt k hk).1
  cases A with
  | none =>
    obtain ⟨rfl, rfl⟩ := hnil rfl
    have hy : fs' = [] := List.eq_nil_of_length_eq_zero hm.symm
    subst hy
    have hrun := run_append_owned_none (P := Tryd.prog) (w := w) w0.heap.size 26 ty 33 i0 7 Tryd.underlying26 hi v gs.length (gs.flatMap G.cells) h2
    have hO : OutE w0 w v (gs.map G.e ++ [].map G.e) := ⟨gs, by simp, h2, h3, h4⟩
    obtain ⟨A', c', e, _⟩ := hO.slice
    refine ⟨A', _, c', w, by rw [hrun]; exact congrArg (fun x => Result.ok x w) e, by rw [← e]; exact hO, ⟨rfl, rfl, rfl, Nat.le_refl _, fun _ _ _ => rfl⟩, hlo⟩
  | some ad =>
    have hk : ∃ g0 cap : Nat, Value.slice (some ad) m c = .slice (some ⟨g0, 0, none⟩) m cap ∧ w1.heap.size ≤ g0 := by
      rcases k2.2 with ⟨e, _⟩ | ⟨g0, cap, cur, e, hb0, _⟩
      · injection e with e1; cases e1
      · exact ⟨g0, cap, by rw [hm]; rw [hm] at e; exact e, hb0⟩
    obtain ⟨g0, cap, e, hg0⟩ := hk
    injection e with e1 _ e3
    injection e1 with e1
    subst e1 e3
    have kc := k2.cells (g := g0) rfl
    obtain ⟨v', w', hrun, hown, hgrow, _, hat⟩ := run_append_own_at (P := Tryd.prog) w w0.heap.size 26 ty 33 i0 _ 7 72 Tryd.underlying26 hi hz0 hz1 hz2 rfl (by decide) v gs.length (gs.flatMap G.cells) h2 ⟨g0, 0, none⟩ m c (fs'.flatMap G.cells) (by rw [cells_all, hm]) kc (by
      intro u hu
      rw [List.mem_flatMap] at hu
      obtain ⟨g, _, hu⟩ := hu
      simp only [G.cells, List.mem_cons, List.not_mem_nil, or_false] at hu
      rcases hu with rfl | rfl | rfl | rfl | rfl | rfl | rfl <;> rfl) (by unfold maxLen; omega) (by omega) h4.size
    have hsz := h4.size
    have hO : OutE w0 w' v' (gs.map G.e ++ fs'.map G.e) := by
      refine ⟨gs ++ fs', by simp, ?_, fun g hg => ?_, h4.grown hgrow hsz (fun k hk => (h2.lt k hk).1)⟩
      · rw [List.length_append, List.flatMap_append, ← hm]
        exact hown
      · rw [List.mem_append] at hg
        rcases hg with hg | hg
        · refine (h3 g hg).move hgrow (Nat.le_refl _) (fun b _ hb hne => ⟨hne, ?_⟩)
          rcases hat with e | e
          · rw [e]; exact hne
          · rw [e]; intro e'; injection e' with e'; omega
        · have hno : ∀ b, w1.heap.size ≤ b → some b ≠ v.ownBlock := fun b hb e => by
            have := hvl b e.symm
            omega
          refine (k3 g hg).move hgrow hsz1 (fun b hlo hb _ => ⟨hno b hlo, ?_⟩)
          rcases hat with e | e
          · rw [e]; exact hno b hlo
          · rw [e]; intro e'; injection e' with e'; omega
    obtain ⟨A', c', e, _⟩ := hO.slice
    subst e
    exact ⟨A', _, c', w', hrun, hO, hgrow, hlo⟩
theorem wp_joinE {o : Oper} {a : Act} {K : Act → World → Prop} {Q : Exit → Act → World → Prop} (s x : Operand)
    (ho : o.op = .call { callee := .builtin .append, args := #[s, x], argTypes := #[26, 26] })
    (w0 w1 w : World) (v : Value) (es fs : List Vt.E) (A : Option Addr) (m c : Nat) (hs : a.eval s = v) (hx : a.eval x = .slice A m c) (hv : OutE w0 w1 v es) (hf : OutE w1 w (.slice A m c) fs) (hl : es.length + fs.length ≤ 100000)
    (h : ∀ (A' : Option Addr) (n' c' : Nat) w', Aside (OutE w0 w' (.slice A' n' c') (es ++ fs)) → Aside (w.grownBy w' v.ownBlock ∧ ∀ k, v.ownBlock = some k → w0.heap.size ≤ k) → K (a.put o.dst (.slice A' n' c')) w') : Oper.wp Tryd.prog o a w K Q := by
  obtain ⟨A', n', c', w', hrun, hO, hg⟩ := run_joinE o.type w0 w1 w v es fs A m c hv hf hl
  unfold Oper.wp
  simp [execOp, ho, resolve, invoke, builtin, hs, hx, hrun, Result.andThen]
  exact h A' n' c' w' hO hg
theorem wpList_joinE {ops : Array Oper} {rest : List Oper} {o : Oper} {a : Act} {Q : Exit → Act → World → Prop} (hgd : o.guard = none) (s x : Operand)
    (ho : o.op = .call { callee := .builtin .append, args := #[s, x], argTypes := #[26, 26] })
    (w0 w1 w : World) (v : Value) (es fs : List Vt.E) (A : Option Addr) (m c : Nat) (hs : a.eval s = v) (hx : a.eval x = .slice A m c) (hv : OutE w0 w1 v es) (hf : OutE w1 w (.slice A m c) fs) (hl : es.length + fs.length ≤ 100000)
    (h : ∀ (A' : Option Addr) (n' c' : Nat) w', Aside (OutE w0 w' (.slice A' n' c') (es ++ fs)) → wpList Tryd.prog ops Q rest (a.put o.dst (.slice A' n' c')) w') : wpList Tryd.prog ops Q (o :: rest) a w :=
  wpList_plain hgd fun _ hK => wp_joinE s x ho w0 w1 w v es fs A m c hs hx hv hf hl fun A' n' c' w' hO _ => hK _ _ (h A' n' c' w' hO)
/-- The same at a step of a region that draws its order. -/
theorem step_joinE {ops : Array Oper} {o : Oper} {a : Act} {K : Act → World → Prop} {Q : Exit → Act → World → Prop} {E : Prop} (hgd : o.guard = none) (s x : Operand)
    (ho : o.op = .call { callee := .builtin .append, args := #[s, x], argTypes := #[26, 26] })
    (w0 w1 w : World) (v : Value) (es fs : List Vt.E) (A : Option Addr) (m c : Nat) (hs : a.eval s = v) (hx : a.eval x = .slice A m c) (hv : OutE w0 w1 v es) (hf : OutE w1 w (.slice A m c) fs) (hl : es.length + fs.length ≤ 100000)
    (h : ∀ (A' : Option Addr) (n' c' : Nat) w', Aside (OutE w0 w' (.slice A' n' c') (es ++ fs)) → Aside (w.grownBy w' v.ownBlock ∧ ∀ k, v.ownBlock = some k → w0.heap.size ≤ k) → K (a.put o.dst (.slice A' n' c')) w') :
    if Region.wanted o (yielded ops a.tmps) = true then Oper.wp Tryd.prog o a w K Q else E := by
  have hw : Region.wanted o (yielded ops a.tmps) = true := by simp [Region.wanted, hgd]
  rw [if_pos hw]
  exact wp_joinE s x ho w0 w1 w v es fs A m c hs hx hv hf hl h

/-- The slice of n events at A reads, in the world w, as the events es. -/
def Evs (w : World) (A : Option Addr) (n : Nat) (es : List Vt.E) : Prop :=
  ∃ gs : List G, gs.map G.e = es ∧ gs.length = n ∧ (∀ j g, gs[j]? = some g → ∃ b off, A = some ⟨b, off, none⟩ ∧ b < w.heap.size ∧ ∀ i v, g.cells[i]? = some v → w.cell? ⟨b, off + (7 * j + i), none⟩ = some v) ∧
    ∀ g ∈ gs, Ci.Nums w w.heap.size g.A g.n g.e.ps
theorem Evs.below {w w' : World} {A : Option Addr} {n : Nat} {es : List Vt.E} (h : Evs w A n es) (hb : Below w.heap.size w w') : Evs w' A n es := by
  obtain ⟨gs, h1, h2, h3, h4⟩ := h
  refine ⟨gs, h1, h2, fun j g hj => ?_, fun g hg => ((h4 g hg).below hb (Nat.le_refl _)).more hb.size⟩
  obtain ⟨b, off, e, hlt, hc⟩ := h3 j g hj
  exact ⟨b, off, e, Nat.lt_of_lt_of_le hlt hb.size, fun i v hv => (hb.cell (p := ⟨b, off + (7 * j + i), none⟩) hlt).trans (hc i v hv)⟩
theorem Evs.length {w : World} {A : Option Addr} {n : Nat} {es : List Vt.E} (h : Evs w A n es) : es.length = n := by
  obtain ⟨gs, h1, h2, _⟩ := h
  rw [← h1, List.length_map, h2]
theorem OutE.evs {w0 w : World} {A : Option Addr} {n c : Nat} {es : List Vt.E} (h : OutE w0 w (.slice A n c) es) : Evs w A n es := by
  have hn := h.len.1
  obtain ⟨gs, h1, h2, h3, h4⟩ := h
  have hgl : gs.length = n := by rw [hn, ← h1, List.length_map]
  refine ⟨gs, h1, hgl, fun j g hj => ?_, fun g hg => (h3 g hg).nums⟩
  have hjl : j < gs.length := by
    rcases Nat.lt_or_ge j gs.length with h | h
    · exact h
    · rw [List.getElem?_eq_none h] at hj; cases hj
  rcases h2.2 with ⟨_, e0⟩ | ⟨b, cap, cur, e, _, hh, _⟩
  · omega
  · injection e with e1 e2 e3
    subst e1
    have hlt : b < w.heap.size := (Array.getElem?_eq_some_iff.1 hh).1
    refine ⟨b, 0, rfl, hlt, fun i v hv => ?_⟩
    have := h2.cells (g := b) rfl (7 * j + i) v (cells_at gs j i g v hj hv)
    have hadd : (⟨b, 0, none⟩ : Addr).add (7 * j + i) = ⟨b, 0 + (7 * j + i), none⟩ := by
      unfold Addr.add
      rw [Nat.zero_add]
      split
      · rename_i h0; rw [h0]
      · rfl
    rw [hadd] at this
    exact this

theorem Pk.all {w : World} {k : Nat} {p : Vt.P} (h : Pk w k p) (q : Vt.P) : Pk (((w.setCell ⟨k, 0, none⟩ (.int .i64 q.st)).setCell ⟨k, 1, none⟩ (.string (ba q.pe))).setCell ⟨k, 2, none⟩ (.string (ba q.bu))) k q := ((h.s0 q.st).s1 q.pe).s2 q.bu
/-- What a function that reads leaves: a parser and events. -/
def Gone (w : World) (q : Vt.P) (es : List Vt.E) (e : Ending) (w' : World) : Prop :=
  ∃ A n c, e = .returned (.tuple #[.agg #[.int .i64 q.st, .string (ba q.pe), .string (ba q.bu)], .slice A n c]) ∧ OutE w w' (.slice A n c) es
theorem res_two {fn : Func} {a b : Tmp} (h : fn.results = #[.cell a 23, .tmp b]) (tmps : Array Value) (w : World) (k : Nat) (q : Vt.P) (hp : tmps.getD a undef = .pointer (some ⟨k, 0, none⟩)) (hk : Pk w k q) :
    (results fn tmps).run Tryd.prog w = .ok (.tuple #[.agg #[.int .i64 q.st, .string (ba q.pe), .string (ba q.bu)], tmps.getD b undef]) w := by
  have hp' : tmps[a]?.getD undef = .pointer (some ⟨k, 0, none⟩) := by simpa using hp
  simp [results, h, hp', asAddr, run_loadVar_row w k _ 23 _ _ _ hk Tryd.underlying23 rfl (by kernel_rfl)]
theorem res_parser {fn : Func} {a : Tmp} (h : fn.results = #[.cell a 23]) (tmps : Array Value) (w : World) (k : Nat) (q : Vt.P) (hp : tmps.getD a undef = .pointer (some ⟨k, 0, none⟩)) (hk : Pk w k q) :
    (results fn tmps).run Tryd.prog w = .ok (.agg #[.int .i64 q.st, .string (ba q.pe), .string (ba q.bu)]) w :=
  results_cell_row h tmps w k 23 _ (0, 0) _ hp hk Tryd.underlying23 rfl (by kernel_rfl)

end Go.Proofs.YtihfjkjbeeoanaaDoor
