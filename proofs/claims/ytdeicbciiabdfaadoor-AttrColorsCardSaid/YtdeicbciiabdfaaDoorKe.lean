/-
  What a statement of layer 4 knows of its memory: renditions that lie in blocks of its own, what lay below as it was, and the table of the flags.
-/
import Derived.Test.YtdeicbciiabdfaaDoorAwake
import Derived.Test.YtdeicbciiabdfaaDoorAtMore
namespace Go.Proofs.YtdeicbciiabdfaaDoor
open Go.RowKit

/-- The renditions rs lie in their blocks of W; what lay in w stands; the table stands. -/
def Ke (w W : World) (rs : List (Nat × At.R)) : Prop := (∀ r ∈ rs, Rec W r.1 r.2) ∧ Below w.heap.size w W ∧ Tb W
theorem Ke.below {w W W' : World} {rs : List (Nat × At.R)} (h : Ke w W rs) (hb : Below W.heap.size W W') : Ke w W' rs :=
  ⟨fun r hr => (h.1 r hr).below hb, h.2.1.trans (hb.mono h.2.1.size), h.2.2.below hb (Nat.le_refl _)⟩
theorem Ke.drew {w W : World} {rs : List (Nat × At.R)} (h : Ke w W rs) : Ke w W.drew rs := h.below (Below.refl _ _).drew
theorem Ke.rec {w W : World} {rs : List (Nat × At.R)} (h : Ke w W rs) (j : Nat) {k : Nat} {a : At.R} (hj : rs[j]? = some (k, a)) : Rec W k a := h.1 (k, a) (List.mem_of_getElem? hj)
theorem Ke.more {w W : World} {rs : List (Nat × At.R)} (h : Ke w W rs) (a : At.R) : Ke w (W.alloc (.cells #[.int .i64 a.f, .int .i64 a.b, .int .i64 a.g] 23)) (rs ++ [(W.heap.size, a)]) := by
  have hb := (Below.refl W.heap.size W).alloc (Nat.le_refl _) (.cells #[.int .i64 a.f, .int .i64 a.b, .int .i64 a.g] 23)
  have h' := h.below hb
  refine ⟨fun r hr => ?_, h'.2⟩
  rw [List.mem_append] at hr
  rcases hr with hr | hr
  · exact h'.1 r hr
  · simp at hr
    subst hr
    exact Rec.laid W a
theorem Ke.start {w : World} (hT : Tb w) : Ke w w [] := ⟨(fun _ h => by cases h), Below.refl _ _, hT⟩
theorem Ke.nums {w W : World} {rs : List (Nat × At.R)} (h : Ke w W rs) {A : Option Addr} {n : Nat} {xs : List Int} (hX : Nums w w.heap.size A n xs) : Nums W w.heap.size A n xs := hX.below h.2.1 (Nat.le_refl _)

end Go.Proofs.YtdeicbciiabdfaaDoor
