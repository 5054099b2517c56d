/-
  The memory of a statement with a cursor and bounds.
-/
import Derived.Test.YteenjjiobibokaaCuAwake
namespace Go.Proofs.Yteenjjiobibokaa
open Go.RowKit Cu

theorem mem2 (w : World) (r c W H T E : Int) (O p : Bool) (U : World) (h : Below ((w.alloc (.cells #[.int .i64 r, .int .i64 c, .bool p] 23)).alloc (.cells #[.int .i64 W, .int .i64 H, .int .i64 T, .int .i64 E, .bool O] 25)).heap.size ((w.alloc (.cells #[.int .i64 r, .int .i64 c, .bool p] 23)).alloc (.cells #[.int .i64 W, .int .i64 H, .int .i64 T, .int .i64 E, .bool O] 25)) U) :
    Below w.heap.size w U ∧ Cr U w.heap.size r c p ∧ Bd U (w.heap.size + 1) W H T E O :=
  ⟨below_step (below_step (below_alloc _ _) (below_alloc _ _)) h, ((Cr.laid w r c p).below (below_alloc _ _)).below h, (Bd.put _ (by simp) W H T E O).below h⟩
/-- What a statement knows of its memory: the cursor, the bounds, and cursors in blocks of its own. -/
def Me (w U : World) (r c : Int) (p : Bool) (W H T E : Int) (O : Bool) (ks : List (Nat × Int × Int × Bool)) : Prop :=
  Below w.heap.size w U ∧ Cr U w.heap.size r c p ∧ Bd U (w.heap.size + 1) W H T E O ∧ ∀ x ∈ ks, Cr U x.1 x.2.1 x.2.2.1 x.2.2.2
theorem Me.below {w U U' : World} {r c W H T E : Int} {p O : Bool} {ks : List (Nat × Int × Int × Bool)} (h : Me w U r c p W H T E O ks) (hb : Below U.heap.size U U') : Me w U' r c p W H T E O ks :=
  ⟨below_step h.1 hb, h.2.1.below hb, h.2.2.1.below hb, fun x hx => (h.2.2.2 x hx).below hb⟩
theorem Me.more {w U : World} {r c W H T E : Int} {p O : Bool} {ks : List (Nat × Int × Int × Bool)} (h : Me w U r c p W H T E O ks) (x y : Int) (q : Bool) : Me w (U.alloc (.cells #[.int .i64 x, .int .i64 y, .bool q] 23)) r c p W H T E O (ks ++ [(U.heap.size, x, y, q)]) := by
  have h' := h.below (below_alloc U (.cells #[.int .i64 x, .int .i64 y, .bool q] 23))
  refine ⟨h'.1, h'.2.1, h'.2.2.1, fun z hz => ?_⟩
  rw [List.mem_append] at hz
  rcases hz with hz | hz
  · exact h'.2.2.2 z hz
  · simp at hz
    subst hz
    exact Cr.laid U x y q
theorem Me.at {w U : World} {r c W H T E : Int} {p O : Bool} {ks : List (Nat × Int × Int × Bool)} (h : Me w U r c p W H T E O ks) (j : Nat) {k : Nat} {x y : Int} {q : Bool} (hj : ks[j]? = some (k, x, y, q)) : Cr U k x y q := h.2.2.2 _ (List.mem_of_getElem? hj)
theorem Me.start (w : World) (r c W H T E : Int) (O p : Bool) (U : World) (h : Below ((w.alloc (.cells #[.int .i64 r, .int .i64 c, .bool p] 23)).alloc (.cells #[.int .i64 W, .int .i64 H, .int .i64 T, .int .i64 E, .bool O] 25)).heap.size ((w.alloc (.cells #[.int .i64 r, .int .i64 c, .bool p] 23)).alloc (.cells #[.int .i64 W, .int .i64 H, .int .i64 T, .int .i64 E, .bool O] 25)) U) : Me w U r c p W H T E O [] := by
  have k := mem2 w r c W H T E O p U h
  exact ⟨k.1, k.2.1, k.2.2, fun _ h => by cases h⟩

end Go.Proofs.Yteenjjiobibokaa
