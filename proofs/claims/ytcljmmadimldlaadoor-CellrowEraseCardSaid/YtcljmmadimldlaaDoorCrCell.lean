/-
  Cells: what a cell is, and how a list of cells lies in memory, one cell of memory a field.
-/
import Derived.Test.YtcljmmadimldlaaDoorSmall
namespace Go.Proofs.YtcljmmadimldlaaDoor
open Go.RowKit
namespace Cr

structure C where
  t : ByteArray
  w : Int
  f : Int
  b : Int
  g : Int
deriving DecidableEq

def sp : ByteArray := ⟨#[32]⟩
def half (c : C) : C := ⟨⟨#[]⟩, 0, c.f, c.b, c.g⟩
def blank (b : Int) : C := ⟨sp, 1, -1, b, 0⟩

def C.cells (c : C) : List Value := [.string c.t, .int .i64 c.w, .int .i64 c.f, .int .i64 c.b, .int .i64 c.g]
def flat (l : List C) : List Value := l.flatMap C.cells
theorem C.cells_length (c : C) : c.cells.length = 5 := rfl
theorem flat_nil : flat [] = [] := rfl
theorem flat_cons (c : C) (l : List C) : flat (c :: l) = c.cells ++ flat l := rfl
theorem flat_app (a b : List C) : flat (a ++ b) = flat a ++ flat b := List.flatMap_append
theorem flat_length (l : List C) : (flat l).length = l.length * 5 := by
  induction l with
  | nil => rfl
  | cons c l ih => rw [flat_cons, List.length_append, ih, C.cells_length, List.length_cons]; omega
theorem flat_take (l : List C) : ∀ k, (flat l).take (k * 5) = flat (l.take k) := by
  induction l with
  | nil => intro k; simp [flat]
  | cons c l ih =>
    intro k
    cases k with
    | zero => simp [flat]
    | succ k =>
      rw [flat_cons, List.take_succ_cons, flat_cons, ← ih k, List.take_append, C.cells_length, List.take_of_length_le (by rw [C.cells_length]; omega)]
      congr 2
      omega
theorem flat_drop (l : List C) : ∀ k, (flat l).drop (k * 5) = flat (l.drop k) := by
  induction l with
  | nil => intro k; simp [flat]
  | cons c l ih =>
    intro k
    cases k with
    | zero => simp [flat]
    | succ k =>
      rw [flat_cons, List.drop_succ_cons, ← ih k, List.drop_append, C.cells_length, List.drop_of_length_le (by rw [C.cells_length]; omega), List.nil_append]
      congr 1
      omega
theorem flat_at {l : List C} : ∀ {j i : Nat} {c : C} {v : Value}, l[j]? = some c → c.cells[i]? = some v → (flat l)[5 * j + i]? = some v := by
  induction l with
  | nil => intro j i c v h; simp at h
  | cons a l ih =>
    intro j i c v hj hi
    rw [flat_cons]
    cases j with
    | zero =>
      have e : a = c := by simpa using hj
      subst e
      have hl : i < a.cells.length := by
        rcases Nat.lt_or_ge i a.cells.length with h | h
        · exact h
        · rw [List.getElem?_eq_none h] at hi; cases hi
      rw [Nat.mul_zero, Nat.zero_add, List.getElem?_append_left hl]
      exact hi
    | succ j =>
      rw [List.getElem?_append_right (by rw [C.cells_length]; omega)]
      have e : 5 * (j + 1) + i - a.cells.length = 5 * j + i := by rw [C.cells_length]; omega
      rw [e]
      exact ih (by simpa using hj) hi
theorem flat_of {l : List C} : ∀ {k : Nat} {v : Value}, (flat l)[k]? = some v → ∃ c, l[k / 5]? = some c ∧ c.cells[k % 5]? = some v := by
  induction l with
  | nil => intro k v h; simp [flat] at h
  | cons a l ih =>
    intro k v h
    rw [flat_cons] at h
    rcases Nat.lt_or_ge k 5 with hk | hk
    · rw [List.getElem?_append_left (by rw [C.cells_length]; exact hk)] at h
      have e1 : k / 5 = 0 := by omega
      have e2 : k % 5 = k := by omega
      rw [e1, e2]
      exact ⟨a, rfl, h⟩
    · rw [List.getElem?_append_right (by rw [C.cells_length]; exact hk), C.cells_length] at h
      obtain ⟨c, h1, h2⟩ := ih h
      have e1 : k / 5 = (k - 5) / 5 + 1 := by omega
      have e2 : k % 5 = (k - 5) % 5 := by omega
      rw [e1, e2]
      exact ⟨c, by simpa using h1, h2⟩
theorem flat_one {l : List C} {v : Value} (h : v ∈ flat l) : v.oneCell' = true := by
  obtain ⟨k, hk⟩ := List.getElem?_of_mem h
  obtain ⟨c, _, hv⟩ := flat_of hk
  have hm : v ∈ c.cells := List.mem_of_getElem? hv
  simp only [C.cells, List.mem_cons, List.not_mem_nil, or_false] at hm
  rcases hm with rfl | rfl | rfl | rfl | rfl <;> rfl
theorem flat_set (l : List C) : ∀ (j : Nat) (c : C), j < l.length → flat (l.set j c) = (((((flat l).set (j * 5) (.string c.t)).set (j * 5 + 1) (.int .i64 c.w)).set (j * 5 + 2) (.int .i64 c.f)).set (j * 5 + 3) (.int .i64 c.b)).set (j * 5 + 4) (.int .i64 c.g) := by
  induction l with
  | nil => intro j c h; simp at h
  | cons a l ih =>
    intro j c h
    cases j with
    | zero => simp [flat_cons, C.cells]
    | succ j =>
      have h' : j < l.length := by simpa using h
      rw [List.set_cons_succ, flat_cons, flat_cons, ih j c h']
      have e : ∀ i, (j + 1) * 5 + i = (j * 5 + i) + 5 := fun i => by omega
      have e0 : (j + 1) * 5 = (j * 5) + 5 := by omega
      rw [e0, Nat.add_right_comm (j * 5) 5 1, Nat.add_right_comm (j * 5) 5 2, Nat.add_right_comm (j * 5) 5 3, Nat.add_right_comm (j * 5) 5 4]
      simp [C.cells]
end Cr
open Cr

theorem addr_add (b off q : Nat) : (⟨b, off, none⟩ : Addr).add q = ⟨b, off + q, none⟩ := by
  unfold Addr.add
  split
  · rename_i h0; rw [h0]; rfl
  · rfl

theorem Tryd.infoCell : (Tryd.prog.info? 48).map (fun i => (i.zero, i.size, i.bytes)) = some (some (.agg #[.string ⟨#[]⟩, .int .i64 0, .int .i64 0, .int .i64 0, .int .i64 0]), 5, 48) := by kernel_rfl

/-- The slice of n cells at A reads, in the world w, as the list l. -/
def Rd (w : World) (A : Option Addr) (n : Nat) (l : List C) : Prop :=
  l.length = n ∧ ∀ j c, l[j]? = some c → ∃ b off, A = some ⟨b, off, none⟩ ∧ b < w.heap.size ∧ ∀ i v, c.cells[i]? = some v → w.cell? ⟨b, off + (5 * j + i), none⟩ = some v
theorem Rd.below {w w' : World} {A : Option Addr} {n : Nat} {l : List C} (h : Rd w A n l) (hb : Below w.heap.size w w') : Rd w' A n l := by
  refine ⟨h.1, fun j c hj => ?_⟩
  obtain ⟨b, off, e, hlt, hc⟩ := h.2 j c hj
  exact ⟨b, off, e, Nat.lt_of_lt_of_le hlt hb.size, fun i v hv => (hb.cell (p := ⟨b, off + (5 * j + i), none⟩) hlt).trans (hc i v hv)⟩
theorem Rd.alloc {w : World} {A : Option Addr} {n : Nat} {l : List C} (h : Rd w A n l) (o : Obj) : Rd (w.alloc o) A n l := h.below ((Below.refl _ _).alloc (Nat.le_refl _) o)
theorem Rd.drew {w : World} {A : Option Addr} {n : Nat} {l : List C} (h : Rd w A n l) : Rd w.drew A n l := h.below (Below.refl _ _).drew
theorem Rd.nil (w : World) (A : Option Addr) : Rd w A 0 [] := ⟨rfl, fun j c hj => by simp at hj⟩
theorem Rd.at {w : World} {A : Option Addr} {n : Nat} {l : List C} (h : Rd w A n l) (j : Nat) (c : C) (hj : l[j]? = some c) : ∃ (b off : Nat), A = some ⟨b, off, none⟩ ∧ b < w.heap.size ∧
    w.cell? ⟨b, off + j * 5, none⟩ = some (.string c.t) ∧ w.cell? ⟨b, off + j * 5 + 1, none⟩ = some (.int .i64 c.w) ∧ w.cell? ⟨b, off + j * 5 + 2, none⟩ = some (.int .i64 c.f) ∧ w.cell? ⟨b, off + j * 5 + 3, none⟩ = some (.int .i64 c.b) ∧ w.cell? ⟨b, off + j * 5 + 4, none⟩ = some (.int .i64 c.g) := by
  obtain ⟨b, off, e, hlt, hc⟩ := h.2 j c hj
  have hq : ∀ i v, c.cells[i]? = some v → w.cell? ⟨b, off + j * 5 + i, none⟩ = some v := fun i v hv => by
    rw [Nat.add_assoc, Nat.mul_comm]
    exact hc i v hv
  exact ⟨b, off, e, hlt, hq 0 _ rfl, hq 1 _ rfl, hq 2 _ rfl, hq 3 _ rfl, hq 4 _ rfl⟩
theorem Rd.mk' {w : World} {b off n : Nat} {l : List C} (hn : l.length = n) (hb : 0 < n → b < w.heap.size) (h : ∀ k v, (flat l)[k]? = some v → w.cell? ⟨b, off + k, none⟩ = some v) : Rd w (some ⟨b, off, none⟩) n l := by
  refine ⟨hn, fun j c hj => ⟨b, off, rfl, hb ?_, fun i v hv => h _ _ (flat_at hj hv)⟩⟩
  have : j < l.length := by
    rcases Nat.lt_or_ge j l.length with h' | h'
    · exact h'
    · rw [List.getElem?_eq_none h'] at hj; cases hj
  omega
theorem Rd.cells {w : World} {b off n : Nat} {l : List C} (h : Rd w (some ⟨b, off, none⟩) n l) (k : Nat) (v : Value) (hk : (flat l)[k]? = some v) : w.cell? ⟨b, off + k, none⟩ = some v := by
  obtain ⟨c, hc, hv⟩ := flat_of hk
  obtain ⟨b', off', e, _, hq⟩ := h.2 _ c hc
  injection e with e
  injection e with e1 e2
  subst e1 e2
  have := hq _ v hv
  have e3 : 5 * (k / 5) + k % 5 = k := by omega
  rwa [e3] at this
/-- A part of a slice. -/
theorem Rd.part {w : World} {b off n : Nat} {l : List C} (h : Rd w (some ⟨b, off, none⟩) n l) (i j : Nat) (hij : i ≤ j) (hj : j ≤ n) : Rd w (some ⟨b, off + i * 5, none⟩) (j - i) ((l.drop i).take (j - i)) := by
  have hl := h.1
  refine ⟨by rw [List.length_take, List.length_drop]; omega, fun q c hq => ?_⟩
  have hq' : l[i + q]? = some c := by
    rw [List.getElem?_take] at hq
    split at hq
    · rwa [List.getElem?_drop] at hq
    · cases hq
  obtain ⟨b', off', e, hb, hc⟩ := h.2 _ c hq'
  injection e with e
  injection e with e1 e2
  subst e1 e2
  refine ⟨b, off + i * 5, rfl, hb, fun k v hv => ?_⟩
  have := hc k v hv
  have e3 : off + i * 5 + (5 * q + k) = off + (5 * (i + q) + k) := by omega
  rw [e3]
  exact this

/-- The call that began in w0 owns the slice v, whose cells are l. -/
def Own (w0 w : World) (v : Value) (l : List C) : Prop := w.ownsRow w0.heap.size 48 5 v l.length (flat l) ∧ Below w0.heap.size w0 w
theorem owns_low {w w' : World} {base : Nat} {e : TypeId} {size : Nat} {v : Value} {n : Nat} {xs : List Value} (h : w.ownsRow base e size v n xs) (hb : Below w.heap.size w w') : w'.ownsRow base e size v n xs := by
  refine ⟨h.1, ?_⟩
  rcases h.2 with hn | ⟨g, cap, cur, rfl, hbase, hg, rest⟩
  · exact .inl hn
  · refine .inr ⟨g, cap, cur, rfl, hbase, ?_, rest⟩
    have hlt : g < w.heap.size := by
      rcases Nat.lt_or_ge g w.heap.size with hlt | hge
      · exact hlt
      · rw [Array.getElem?_eq_none hge] at hg; cases hg
    exact (hb.block g hlt).trans hg
theorem Own.below {w0 w w' : World} {v : Value} {l : List C} (h : Own w0 w v l) (hb : Below w.heap.size w w') : Own w0 w' v l := ⟨owns_low h.1 hb, h.2.trans (hb.mono h.2.size)⟩
theorem Own.alloc {w0 w : World} {v : Value} {l : List C} (h : Own w0 w v l) (o : Obj) : Own w0 (w.alloc o) v l := h.below ((Below.refl _ _).alloc (Nat.le_refl _) o)
theorem Own.drew {w0 w : World} {v : Value} {l : List C} (h : Own w0 w v l) : Own w0 w.drew v l := h.below (Below.refl _ _).drew
theorem Own.rebase {w0 w1 w : World} {v : Value} {l : List C} (h : Own w1 w v l) (hb : Below w0.heap.size w0 w1) : Own w0 w v l := by
  refine ⟨⟨h.1.1, ?_⟩, hb.trans (h.2.mono hb.size)⟩
  rcases h.1.2 with hn | ⟨g, cap, cur, rfl, hbase, rest⟩
  · exact .inl hn
  · exact .inr ⟨g, cap, cur, rfl, Nat.le_trans hb.size hbase, rest⟩
theorem Own.start (w : World) : Own w w (.slice none 0 0) [] := ⟨World.ownsRow_nil _ _ _ _, Below.refl _ _⟩
theorem Own.slice {w0 w : World} {v : Value} {l : List C} (h : Own w0 w v l) : (v = .slice none 0 0 ∧ l = []) ∨ ∃ g cap, v = .slice (some ⟨g, 0, none⟩) l.length cap ∧ w0.heap.size ≤ g ∧ g < w.heap.size ∧ l.length ≤ cap := by
  rcases h.1.2 with ⟨e, e0⟩ | ⟨g, cap, cur, e, hb, hg, hc, _⟩
  · exact .inl ⟨e, List.eq_nil_of_length_eq_zero e0⟩
  · exact .inr ⟨g, cap, e, hb, (Array.getElem?_eq_some_iff.1 hg).1, hc⟩
theorem Own.rd {w0 w : World} {A : Option Addr} {n c : Nat} {l : List C} (h : Own w0 w (.slice A n c) l) : Rd w A n l ∧ (A = none → n = 0 ∧ c = 0) := by
  rcases h.slice with ⟨e, rfl⟩ | ⟨g, cap, e, _, hlt, _⟩
  · injection e with e1 e2 e3
    subst e1 e2 e3
    exact ⟨Rd.nil _ _, fun _ => ⟨rfl, rfl⟩⟩
  · injection e with e1 e2 e3
    subst e1 e2 e3
    refine ⟨Rd.mk' rfl (fun _ => hlt) fun k v hv => ?_, fun e => by cases e⟩
    have := h.1.cells (g := g) rfl k v hv
    rwa [addr_add] at this
/-- A cell of a row of its own is stored. -/
theorem Own.put {w0 w : World} {g n cap : Nat} {l : List C} (h : Own w0 w (.slice (some ⟨g, 0, none⟩) n cap) l) (j : Nat) (c : C) (hj : j < l.length) :
    Own w0 (((((w.setCell ⟨g, j * 5, none⟩ (.string c.t)).setCell ⟨g, j * 5 + 1, none⟩ (.int .i64 c.w)).setCell ⟨g, j * 5 + 2, none⟩ (.int .i64 c.f)).setCell ⟨g, j * 5 + 3, none⟩ (.int .i64 c.b)).setCell ⟨g, j * 5 + 4, none⟩ (.int .i64 c.g)) (.slice (some ⟨g, 0, none⟩) n cap) (l.set j c) := by
  obtain ⟨⟨hx, hr⟩, hb⟩ := h
  rcases hr with ⟨e, _⟩ | ⟨g', cap', cur, e, hbase, hg, h1, h2, h3, h4⟩
  · injection e with e; cases e
  · injection e with e1 e2 e3
    injection e1 with e1
    injection e1 with e1
    subst e1 e2 e3
    have hz : j * 5 + 4 < l.length * 5 := by omega
    have s : ∀ (W : World) (cu : Array Value) (k : Nat) (v : Value), W.heap[g]? = some (.cells cu 48) → (W.setCell ⟨g, k, none⟩ v).heap[g]? = some (.cells (cu.setIfInBounds k v) 48) := fun W cu k v hW => heap_setCell_same W g k _ _ _ hW
    have hG := s _ _ (j * 5 + 4) (.int .i64 c.g) (s _ _ (j * 5 + 3) (.int .i64 c.b) (s _ _ (j * 5 + 2) (.int .i64 c.f) (s _ _ (j * 5 + 1) (.int .i64 c.w) (s _ _ (j * 5) (.string c.t) hg))))
    refine ⟨⟨by rw [flat_length, List.length_set], .inr ⟨g, cap, _, by rw [List.length_set], hbase, hG, by rw [List.length_set]; exact h1, h2, by simp [h3], ?_⟩⟩, ?_⟩
    · rw [List.length_set, flat_set l j c hj]
      simp only [Array.toList_setIfInBounds, List.take_set, h4]
    · exact ((((hb.setCell (p := ⟨g, j * 5, none⟩) hbase _).setCell (p := ⟨g, j * 5 + 1, none⟩) hbase _).setCell (p := ⟨g, j * 5 + 2, none⟩) hbase _).setCell (p := ⟨g, j * 5 + 3, none⟩) hbase _).setCell (p := ⟨g, j * 5 + 4, none⟩) hbase _
theorem Own.laid (w : World) (l : List C) (cs : Array Value) (n : Nat) (hn : l.length = n) (hm : n ≤ 1000) (hcs : (flat l).toArray = cs) : Own w (w.alloc (.cells cs 48)) (.slice (some ⟨w.heap.size, 0, none⟩) n n) l := by
  subst hn hcs
  exact ⟨⟨flat_length l, .inr ⟨w.heap.size, l.length, (flat l).toArray, rfl, Nat.le_refl _, heap_alloc_new w _, Nat.le_refl _, by unfold maxLen; omega, by simp [flat_length], by rw [← flat_length]; simp⟩⟩, (Below.refl _ _).alloc (Nat.le_refl _) _⟩

/-- A slice that the call that began in w0 may append to: its own, or one without spare room. -/
def Mine (w0 w : World) (v : Value) (l : List C) : Prop := Below w0.heap.size w0 w ∧ (w.ownsRow w0.heap.size 48 5 v l.length (flat l) ∨ ∃ b off, v = .slice (some ⟨b, off, none⟩) l.length l.length ∧ Rd w (some ⟨b, off, none⟩) l.length l)
theorem Own.mine {w0 w : World} {v : Value} {l : List C} (h : Own w0 w v l) : Mine w0 w v l := ⟨h.2, .inl h.1⟩
theorem Mine.below {w0 w w' : World} {v : Value} {l : List C} (h : Mine w0 w v l) (hb : Below w.heap.size w w') : Mine w0 w' v l := by
  refine ⟨h.1.trans (hb.mono h.1.size), ?_⟩
  rcases h.2 with h | ⟨b, off, e, h⟩
  · exact .inl (owns_low h hb)
  · exact .inr ⟨b, off, e, h.below hb⟩
theorem Mine.rd {w0 w : World} {A : Option Addr} {n c : Nat} {l : List C} (h : Mine w0 w (.slice A n c) l) : Rd w A n l ∧ (A = none → n = 0 ∧ c = 0) := by
  rcases h.2 with h' | ⟨b, off, e, h'⟩
  · exact Own.rd ⟨h', h.1⟩
  · injection e with e1 e2 e3
    subst e1 e2 e3
    exact ⟨h', fun e => by cases e⟩
theorem Mine.slice {w0 w : World} {v : Value} {l : List C} (h : Mine w0 w v l) : ∃ A c, v = .slice A l.length c := by
  rcases h.2 with h' | ⟨b, off, e, h'⟩
  · rcases Own.slice ⟨h', h.1⟩ with ⟨e, rfl⟩ | ⟨g, cap, e, _⟩
    · exact ⟨none, 0, e⟩
    · exact ⟨_, cap, e⟩
  · exact ⟨_, _, e⟩
theorem Mine.rebase {w0 w1 w : World} {v : Value} {l : List C} (h : Mine w1 w v l) (hb : Below w0.heap.size w0 w1) : Mine w0 w v l := by
  refine ⟨hb.trans (h.1.mono hb.size), ?_⟩
  rcases h.2 with h' | h'
  · exact .inl (Own.rebase ⟨h', h.1⟩ hb).1
  · exact .inr h'

end Go.Proofs.YtcljmmadimldlaaDoor
