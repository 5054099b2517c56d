/-
  A rendition in memory, and a slice of numbers that is cut from the front: what stores and later calls leave of them.
-/
import Derived.Test.YtdeicbciiabdfaaDoorDen
namespace Go.Proofs.YtdeicbciiabdfaaDoor
open Go.RowKit

/-- Where a slice that is cut at k begins. -/
def cutA (A : Option Addr) (c k : Nat) : Option Addr := if c = k then A else A.map (·.add k)
theorem slice_from (A : Option Addr) (m c k : Nat) (hk : k ≤ m) (w : World) :
    (Instr.slice 28 (.slice A m c) (some (.int .i64 (k : Int))) none none).run Tryd.prog w = .ok (.slice (cutA A c k) (m - k) (c - k)) w := by
  have ht : Tryd.prog.underlying 28 = some (.slice (Tryd.prog.elem 28)) := by kernel_rfl
  rw [run_slice_l w 28 A m c ht .i64 (k : Int) (by omega) (by omega)]
  have h : (sizeOf (Tryd.prog.elem 28)).run Tryd.prog w = .ok 1 w := by kernel_rfl
  rw [h]
  simp [Result.andThen, sliced, cutA]

/-- The slice reads as the numbers ys, and lies at or above block lo. -/
def Row (w : World) (lo : Nat) (A : Option Addr) (m c : Nat) (ys : List Int) : Prop :=
  ys.length = m ∧ m ≤ c ∧ ∀ j, j < m → ∃ b off, A = some ⟨b, off, none⟩ ∧ lo ≤ b ∧ b < w.heap.size ∧ w.cell? ⟨b, off + j, none⟩ = some (.int .i64 (ys.getD j 0))
theorem Row.nums {w : World} {lo m c : Nat} {A : Option Addr} {ys : List Int} (h : Row w lo A m c ys) : Nums w w.heap.size A m ys :=
  ⟨h.1, fun j hj => by obtain ⟨b, off, e, _, hb, hc⟩ := h.2.2 j hj; exact ⟨b, off, e, hb, hc⟩⟩
theorem Row.cut {w : World} {lo m c k : Nat} {A : Option Addr} {ys : List Int} (h : Row w lo A m c ys) (hk : k ≤ m) : Row w lo (cutA A c k) (m - k) (c - k) (ys.drop k) := by
  have hc := h.2.1
  refine ⟨by rw [List.length_drop, h.1], by omega, fun j hj => ?_⟩
  obtain ⟨b, off, e, hl, hb, hcell⟩ := h.2.2 (k + j) (by omega)
  subst e
  refine ⟨b, off + k, ?_, hl, hb, ?_⟩
  · unfold cutA
    rw [if_neg (by omega)]
    by_cases h0 : k = 0
    · subst h0; simp [Addr.add]
    · simp [Addr.add, h0]
  · rw [Nat.add_assoc, hcell]
    simp [List.getD_eq_getElem?_getD, List.getElem?_drop]
theorem Row.below {w w' : World} {lo m c : Nat} {A : Option Addr} {ys : List Int} (h : Row w lo A m c ys) (hb : Below w.heap.size w w') : Row w' lo A m c ys :=
  ⟨h.1, h.2.1, fun j hj => by
    obtain ⟨b, off, e, hl, hlt, hc⟩ := h.2.2 j hj
    exact ⟨b, off, e, hl, Nat.lt_of_lt_of_le hlt hb.size, (hb.cell (p := ⟨b, off + j, none⟩) hlt).trans hc⟩⟩
theorem Row.set {w : World} {lo m c k o : Nat} {A : Option Addr} {ys : List Int} (h : Row w lo A m c ys) (hk : k < lo) (v : Value) : Row (w.setCell ⟨k, o, none⟩ v) lo A m c ys :=
  ⟨h.1, h.2.1, fun j hj => by
    obtain ⟨b, off, e, hl, hlt, hc⟩ := h.2.2 j hj
    refine ⟨b, off, e, hl, by simpa using hlt, ?_⟩
    have hh : (w.setCell ⟨k, o, none⟩ v).heap[b]? = w.heap[b]? := heap_setCell_other w ⟨k, o, none⟩ b _ (by show b ≠ k; omega)
    unfold World.cell? at hc ⊢
    simp only [hh]
    exact hc⟩
theorem Out.row {w0 w : World} {A : Option Addr} {n cap : Nat} {xs : List Int} (h : Out w0 w (.slice A n cap) xs) : Row w w0.heap.size A n cap xs := by
  have hc := h.cap
  have hn := h.nums
  refine ⟨hn.2.1, hc.1, fun j hj => ?_⟩
  obtain ⟨b, off, e, hb, hcell⟩ := hn.2.2 j hj
  exact ⟨b, off, e, hc.2.2 b off e, hb, hcell⟩
theorem Row.head {w : World} {lo m c : Nat} {A : Option Addr} {y : Int} {ys : List Int} (h : Row w lo A m c (y :: ys)) : ∃ b off, A = some ⟨b, off, none⟩ ∧ w.cell? ⟨b, off, none⟩ = some (.int .i64 y) := by
  have hl := h.1
  simp at hl
  obtain ⟨b, off, e, _, _, hc⟩ := h.2.2 0 (by omega)
  exact ⟨b, off, e, by simpa using hc⟩

/-- The rendition a lies in block k. -/
def Rec (w : World) (k : Nat) (a : At.R) : Prop := w.heap[k]? = some (.cells #[.int .i64 a.f, .int .i64 a.b, .int .i64 a.g] 23)
theorem Rec.lt {w : World} {k : Nat} {a : At.R} (h : Rec w k a) : k < w.heap.size := by
  rcases Nat.lt_or_ge k w.heap.size with h' | h'
  · exact h'
  · unfold Rec at h; rw [Array.getElem?_eq_none h'] at h; cases h
theorem Rec.c0 {w : World} {k : Nat} {a : At.R} (h : Rec w k a) : w.cell? ⟨k, 0, none⟩ = some (.int .i64 a.f) := cell_of_row w k 0 _ _ _ h
theorem Rec.c1 {w : World} {k : Nat} {a : At.R} (h : Rec w k a) : w.cell? ⟨k, 1, none⟩ = some (.int .i64 a.b) := cell_of_row w k 1 _ _ _ h
theorem Rec.c2 {w : World} {k : Nat} {a : At.R} (h : Rec w k a) : w.cell? ⟨k, 2, none⟩ = some (.int .i64 a.g) := cell_of_row w k 2 _ _ _ h
theorem Rec.z {w : World} {k : Nat} {a : At.R} (h : Rec w k a) (j : Nat) : w.frozen? ⟨k, j, none⟩ = false := frozen_of_row w k j _ _ h
theorem Rec.below {w w' : World} {k : Nat} {a : At.R} (h : Rec w k a) (hb : Below w.heap.size w w') : Rec w' k a := (hb.block k h.lt).trans h
theorem Rec.other {w : World} {k k' o : Nat} {a : At.R} (h : Rec w k a) (hk : k ≠ k') (v : Value) : Rec (w.setCell ⟨k', o, none⟩ v) k a := (heap_setCell_other w ⟨k', o, none⟩ k _ hk).trans h
theorem Rec.s0 {w : World} {k : Nat} {a : At.R} (h : Rec w k a) (x : Int) : Rec (w.setCell ⟨k, 0, none⟩ (.int .i64 x)) k ⟨x, a.b, a.g⟩ := heap_setCell_same w k 0 _ _ _ h
theorem Rec.s1 {w : World} {k : Nat} {a : At.R} (h : Rec w k a) (x : Int) : Rec (w.setCell ⟨k, 1, none⟩ (.int .i64 x)) k ⟨a.f, x, a.g⟩ := heap_setCell_same w k 1 _ _ _ h
theorem Rec.s2 {w : World} {k : Nat} {a : At.R} (h : Rec w k a) (x : Int) : Rec (w.setCell ⟨k, 2, none⟩ (.int .i64 x)) k ⟨a.f, a.b, x⟩ := heap_setCell_same w k 2 _ _ _ h
theorem Rec.laid (w : World) (a : At.R) : Rec (w.alloc (.cells #[.int .i64 a.f, .int .i64 a.b, .int .i64 a.g] 23)) w.heap.size a := heap_alloc_new w _
theorem Rec.alloc {w : World} {k : Nat} {a : At.R} (h : Rec w k a) (o : Obj) : Rec (w.alloc o) k a := h.below ((Below.refl _ _).alloc (Nat.le_refl _) o)
theorem Tb.set {w : World} {k o : Nat} (h : Tb w) (hk : k ≠ 0) (v : Value) : Tb (w.setCell ⟨k, o, none⟩ v) := by
  obtain ⟨t, fr, h⟩ := h
  exact ⟨t, fr, (heap_setCell_other w ⟨k, o, none⟩ _ _ (Ne.symm hk)).trans h⟩

/-- The memory of a call of Apply that began in w: the rendition so far, the place of the result, and the numbers that are left. -/
def Lp (w wr : World) (a : At.R) (A : Option Addr) (m c : Nat) (ys : List Int) : Prop :=
  Rec wr w.heap.size a ∧ Rec wr (w.heap.size + 1) ⟨0, 0, 0⟩ ∧ Row wr (w.heap.size + 2) A m c ys ∧ Below w.heap.size w wr ∧ Tb wr
theorem Lp.below {w wr w' : World} {a : At.R} {A : Option Addr} {m c : Nat} {ys : List Int} (h : Lp w wr a A m c ys) (hb : Below wr.heap.size wr w') : Lp w w' a A m c ys :=
  ⟨h.1.below hb, h.2.1.below hb, h.2.2.1.below hb, h.2.2.2.1.trans (hb.mono h.2.2.2.1.size), h.2.2.2.2.below hb (Nat.le_refl _)⟩
theorem Lp.cut {w wr : World} {a : At.R} {A : Option Addr} {m c : Nat} {ys : List Int} (h : Lp w wr a A m c ys) {k : Nat} (hk : k ≤ m) : Lp w wr a (cutA A c k) (m - k) (c - k) (ys.drop k) :=
  ⟨h.1, h.2.1, h.2.2.1.cut hk, h.2.2.2⟩
theorem Lp.s0 {w wr : World} {a : At.R} {A : Option Addr} {m c : Nat} {ys : List Int} (h : Lp w wr a A m c ys) (hw : 0 < w.heap.size) (x : Int) : Lp w (wr.setCell ⟨w.heap.size, 0, none⟩ (.int .i64 x)) ⟨x, a.b, a.g⟩ A m c ys :=
  ⟨h.1.s0 x, h.2.1.other (by omega) _, h.2.2.1.set (by omega) _, h.2.2.2.1.setCell (Nat.le_refl _) _, h.2.2.2.2.set (by omega) _⟩
theorem Lp.s1 {w wr : World} {a : At.R} {A : Option Addr} {m c : Nat} {ys : List Int} (h : Lp w wr a A m c ys) (hw : 0 < w.heap.size) (x : Int) : Lp w (wr.setCell ⟨w.heap.size, 1, none⟩ (.int .i64 x)) ⟨a.f, x, a.g⟩ A m c ys :=
  ⟨h.1.s1 x, h.2.1.other (by omega) _, h.2.2.1.set (by omega) _, h.2.2.2.1.setCell (Nat.le_refl _) _, h.2.2.2.2.set (by omega) _⟩
theorem Lp.s2 {w wr : World} {a : At.R} {A : Option Addr} {m c : Nat} {ys : List Int} (h : Lp w wr a A m c ys) (hw : 0 < w.heap.size) (x : Int) : Lp w (wr.setCell ⟨w.heap.size, 2, none⟩ (.int .i64 x)) ⟨a.f, a.b, x⟩ A m c ys :=
  ⟨h.1.s2 x, h.2.1.other (by omega) _, h.2.2.1.set (by omega) _, h.2.2.2.1.setCell (Nat.le_refl _) _, h.2.2.2.2.set (by omega) _⟩

end Go.Proofs.YtdeicbciiabdfaaDoor
