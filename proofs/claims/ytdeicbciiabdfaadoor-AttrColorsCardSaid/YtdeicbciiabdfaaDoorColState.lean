/-
  The memory of the statement on colors: the rendition, the six components, the choice and the number; what its function returns there.
-/
import Derived.Test.YtdeicbciiabdfaaDoorGet
import Derived.Test.YtdeicbciiabdfaaDoorColMath
namespace Go.Proofs.YtdeicbciiabdfaaDoor
open Go.RowKit

theorem lt_of_heap {w : World} {k : Nat} {x : Obj} (h : w.heap[k]? = some x) : k < w.heap.size := by
  rcases Nat.lt_or_ge k w.heap.size with h' | h'
  · exact h'
  · rw [Array.getElem?_eq_none h'] at h; cases h

/-- The six components of the statement. -/
structure Six where
  x0 : Int
  x1 : Int
  x2 : Int
  x3 : Int
  x4 : Int
  x5 : Int
def Six.cells (y : Six) : Array Value := #[.int .u8 y.x0, .int .u8 y.x1, .int .u8 y.x2, .int .u8 y.x3, .int .u8 y.x4, .int .u8 y.x5]
def Six.ok (y : Six) : Prop := (0 ≤ y.x0 ∧ y.x0 ≤ 255) ∧ (0 ≤ y.x1 ∧ y.x1 ≤ 255) ∧ (0 ≤ y.x2 ∧ y.x2 ≤ 255) ∧ (0 ≤ y.x3 ∧ y.x3 ≤ 255) ∧ (0 ≤ y.x4 ∧ y.x4 ≤ 255) ∧ (0 ≤ y.x5 ∧ y.x5 ≤ 255)

/-- The variables of the statement that began in w: the rendition in its first block, the components at pd, the choice at pb, the number at pc. -/
def Co (w W : World) (pd pb pc : Nat) (a : At.R) (y : Six) (bk : Bool) (code : Int) : Prop :=
  (Rec W w.heap.size a ∧ W.heap[pd]? = some (.cells y.cells 24) ∧ W.heap[pb]? = some (.cells #[.bool bk] 4) ∧ W.heap[pc]? = some (.cells #[.int .i64 code] 3)) ∧ Below w.heap.size w W ∧ Tb W
theorem Co.below {w W W' : World} {pd pb pc : Nat} {a : At.R} {y : Six} {bk : Bool} {code : Int} (h : Co w W pd pb pc a y bk code) (hb : Below W.heap.size W W') : Co w W' pd pb pc a y bk code :=
  ⟨⟨h.1.1.below hb, (hb.block _ (lt_of_heap h.1.2.1)).trans h.1.2.1, (hb.block _ (lt_of_heap h.1.2.2.1)).trans h.1.2.2.1, (hb.block _ (lt_of_heap h.1.2.2.2)).trans h.1.2.2.2⟩, h.2.1.trans (hb.mono h.2.1.size), h.2.2.below hb (Nat.le_refl _)⟩
theorem Co.alloc {w W : World} {pd pb pc : Nat} {a : At.R} {y : Six} {bk : Bool} {code : Int} (h : Co w W pd pb pc a y bk code) (o : Obj) : Co w (W.alloc o) pd pb pc a y bk code := h.below ((Below.refl _ _).alloc (Nat.le_refl _) o)
theorem Co.drew {w W : World} {pd pb pc : Nat} {a : At.R} {y : Six} {bk : Bool} {code : Int} (h : Co w W pd pb pc a y bk code) : Co w W.drew pd pb pc a y bk code := h.below (Below.refl _ _).drew
/-- The components' cells. -/
theorem Co.at {w W : World} {pd pb pc : Nat} {a : At.R} {y : Six} {bk : Bool} {code : Int} (h : Co w W pd pb pc a y bk code) :
    W.cell? ⟨pd, 0, none⟩ = some (.int .u8 y.x0) ∧ W.cell? ⟨pd, 1, none⟩ = some (.int .u8 y.x1) ∧ W.cell? ⟨pd, 2, none⟩ = some (.int .u8 y.x2) ∧ W.cell? ⟨pd, 3, none⟩ = some (.int .u8 y.x3) ∧ W.cell? ⟨pd, 4, none⟩ = some (.int .u8 y.x4) ∧ W.cell? ⟨pd, 5, none⟩ = some (.int .u8 y.x5) :=
  ⟨cell_of_row W _ 0 _ _ _ h.1.2.1, cell_of_row W _ 1 _ _ _ h.1.2.1, cell_of_row W _ 2 _ _ _ h.1.2.1, cell_of_row W _ 3 _ _ _ h.1.2.1, cell_of_row W _ 4 _ _ _ h.1.2.1, cell_of_row W _ 5 _ _ _ h.1.2.1⟩

/-- The number is laid. -/
theorem Co.new {w W : World} {pd pb : Nat} {a : At.R} {y : Six} {bk : Bool} (h : (Rec W w.heap.size a ∧ W.heap[pd]? = some (.cells y.cells 24) ∧ W.heap[pb]? = some (.cells #[.bool bk] 4)) ∧ Below w.heap.size w W ∧ Tb W) (code : Int) :
    Co w (W.alloc (.cells #[.int .i64 code] 3)) pd pb W.heap.size a y bk code := by
  have hb : Below W.heap.size W (W.alloc (.cells #[.int .i64 code] 3)) := (Below.refl _ W).alloc (Nat.le_refl _) _
  exact ⟨⟨h.1.1.below hb, (hb.block _ (lt_of_heap h.1.2.1)).trans h.1.2.1, (hb.block _ (lt_of_heap h.1.2.2)).trans h.1.2.2, heap_alloc_new W _⟩, h.2.1.trans (hb.mono h.2.1.size), h.2.2.below hb (Nat.le_refl _)⟩

/-- The function of the statement at numbers that were just laid. -/
theorem get_at {w W : World} {pd pb pc : Nat} {a : At.R} {y : Six} {bk : Bool} (h : Co w W pd pb pc a y bk (if bk then 48 else 38)) (ys : List Int) (m : Nat) (hm : ys.length = m) (cs : Array Value) (hcs : (ys.map (Value.int .i64)).toArray = cs) (h0 : 0 < m) (h1 : m ≤ 100) (z : Int)
    (hr : ∀ z ∈ ys, z ≤ 9223372036854775807) (hz : At.apply a ((if bk then 48 else 38) :: ys) = if bk then ⟨a.f, z, a.g⟩ else ⟨z, a.b, a.g⟩) :
    Calls Tryd.prog 6 #[.slice (some ⟨W.heap.size, 0, none⟩) m m, .pointer (some ⟨w.heap.size, 0, none⟩), .pointer (some ⟨pc, 0, none⟩), .pointer (some ⟨pb, 0, none⟩)] (W.alloc (.cells cs 3))
      fun e w' => e = .returned (.int .i64 z) ∧ Below W.heap.size W w' := by
  subst hcs hm
  have hb : Below W.heap.size W (W.alloc (.cells (ys.map (Value.int .i64)).toArray 3)) := (Below.refl _ W).alloc (Nat.le_refl _) _
  have h' := h.alloc (.cells (ys.map (Value.int .i64)).toArray 3)
  have hN := (Out.made W ys (by omega)).nums.2
  refine (get_first a _ (if bk then 48 else 38) bk w.heap.size pc pb ⟨W.heap.size, 0, none⟩ ys.length ys.length ys _ h'.2.2 h'.1.1 (cell_of_row _ _ 0 _ _ _ h'.1.2.2.2) (lt_of_heap h'.1.2.2.2) (cell_of_row _ _ 0 _ _ _ h'.1.2.2.1) (lt_of_heap h'.1.2.2.1) hN h0 h1 ?_ rfl z hz).mono ?_
  · intro x hx
    rw [List.mem_cons] at hx
    rcases hx with rfl | hx
    · cases bk <;> decide
    · exact hr x hx
  · rintro e w' ⟨rfl, hb'⟩
    exact ⟨rfl, hb.trans (hb'.mono hb.size)⟩

theorem get_rgb {w W : World} {pd pb pc : Nat} {a : At.R} {y : Six} {bk : Bool} (h : Co w W pd pb pc a y bk (if bk then 48 else 38)) (x1 x2 x3 : Int) (h1 : 0 ≤ x1 ∧ x1 ≤ 255) (h2 : 0 ≤ x2 ∧ x2 ≤ 255) (h3 : 0 ≤ x3 ∧ x3 ≤ 255) :
    Calls Tryd.prog 6 #[.slice (some ⟨W.heap.size, 0, none⟩) 4 4, .pointer (some ⟨w.heap.size, 0, none⟩), .pointer (some ⟨pc, 0, none⟩), .pointer (some ⟨pb, 0, none⟩)] (W.alloc (.cells #[.int .i64 2, .int .i64 x1, .int .i64 x2, .int .i64 x3] 3))
      fun e w' => e = .returned (.int .i64 (At.rgb x1 x2 x3)) ∧ Below W.heap.size W w' :=
  get_at h [2, x1, x2, x3] 4 rfl _ rfl (by decide) (by decide) _ (by
    intro z hz
    simp only [List.mem_cons, List.not_mem_nil, or_false] at hz
    omega) (At.apply_rgb a bk x1 x2 x3 h1 h2 h3)
theorem get_num {w W : World} {pd pb pc : Nat} {a : At.R} {y : Six} {bk : Bool} (h : Co w W pd pb pc a y bk (if bk then 48 else 38)) (x1 : Int) (h1 : 0 ≤ x1 ∧ x1 ≤ 255) :
    Calls Tryd.prog 6 #[.slice (some ⟨W.heap.size, 0, none⟩) 2 2, .pointer (some ⟨w.heap.size, 0, none⟩), .pointer (some ⟨pc, 0, none⟩), .pointer (some ⟨pb, 0, none⟩)] (W.alloc (.cells #[.int .i64 5, .int .i64 x1] 3))
      fun e w' => e = .returned (.int .i64 x1) ∧ Below W.heap.size W w' :=
  get_at h [5, x1] 2 rfl _ rfl (by decide) (by decide) _ (by
    intro z hz
    simp only [List.mem_cons, List.not_mem_nil, or_false] at hz
    omega) (At.apply_num a bk x1 h1)

end Go.Proofs.YtdeicbciiabdfaaDoor
