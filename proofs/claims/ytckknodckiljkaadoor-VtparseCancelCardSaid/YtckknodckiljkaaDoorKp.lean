/-
  What a statement of layer 6 knows of its memory: parsers that lie in blocks of its own, what lay below as it was, and the tables.
-/
import Derived.Test.YtckknodckiljkaaDoorAwake
namespace Go.Proofs.YtckknodckiljkaaDoor
open Go.RowKit

/-- The parsers rs lie in their blocks of W; what lay in w stands; the tables stand. -/
def Kp (w W : World) (rs : List (Nat × Vt.P)) : Prop := (∀ r ∈ rs, Pk W r.1 r.2) ∧ Below w.heap.size w W ∧ Lib.Utf8Tabs 0 1 W
theorem Kp.below {w W W' : World} {rs : List (Nat × Vt.P)} (h : Kp w W rs) (hb : Below W.heap.size W W') : Kp w W' rs :=
  ⟨fun r hr => (h.1 r hr).below hb, h.2.1.trans (hb.mono h.2.1.size), Utf8Tabs_below h.2.2 hb⟩
theorem Kp.drew {w W : World} {rs : List (Nat × Vt.P)} (h : Kp w W rs) : Kp w W.drew rs := h.below (Below.refl _ _).drew
theorem Kp.rec {w W : World} {rs : List (Nat × Vt.P)} (h : Kp w W rs) (j : Nat) {k : Nat} {p : Vt.P} (hj : rs[j]? = some (k, p)) : Pk W k p := h.1 (k, p) (List.mem_of_getElem? hj)
theorem Kp.more {w W : World} {rs : List (Nat × Vt.P)} (h : Kp w W rs) (p : Vt.P) : Kp w (W.alloc (.cells #[.int .i64 p.st, .string (ba p.pe), .string (ba p.bu)] 23)) (rs ++ [(W.heap.size, p)]) := by
  have hb := (Below.refl W.heap.size W).alloc (Nat.le_refl _) (.cells #[.int .i64 p.st, .string (ba p.pe), .string (ba p.bu)] 23)
  have h' := h.below hb
  refine ⟨fun r hr => ?_, h'.2⟩
  rw [List.mem_append] at hr
  rcases hr with hr | hr
  · exact h'.1 r hr
  · simp at hr
    subst hr
    exact Pk.laid W p
theorem Kp.start {w : World} (hT : Lib.Utf8Tabs 0 1 w) : Kp w w [] := ⟨(fun _ h => by cases h), Below.refl _ _, hT⟩
theorem Kp.alloc {w W : World} {rs : List (Nat × Vt.P)} (h : Kp w W rs) (o : Obj) : Kp w (W.alloc o) rs := h.below ((Below.refl _ _).alloc (Nat.le_refl _) o)
theorem feed_small (p : Vt.P) (l : List UInt8) : (Vt.feed p l).1.pe.length ≤ 900 ∧ (Vt.feed p l).1.bu.length ≤ 1000 := proper_small (Vt.feed_proper p l)

end Go.Proofs.YtckknodckiljkaaDoor
