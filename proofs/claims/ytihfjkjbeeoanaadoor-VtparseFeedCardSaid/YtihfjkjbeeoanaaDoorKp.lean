/-
  What a statement of layer 6 knows of its memory: parsers that lie in blocks of its own, what lay below as it was, and the tables.
-/
import Derived.Test.YtihfjkjbeeoanaaDoorAwake
namespace Go.Proofs.YtihfjkjbeeoanaaDoor
open Go.RowKit

/-- The parsers rs lie in their blocks of W; what lay in w stands; the tables stand. -/
def Kp (w W : World) (rs : List (Nat × Vt.P)) : Prop := (∀ r ∈ rs, Pk W r.1 r.2) ∧ Below w.heap.size w W ∧ Lib.Utf8Tabs 0 1 W
theorem Kp.below {w W W' : World} {rs : List (Nat × Vt.P)} (h : Kp w W rs) (hb : Below W.heap.size W W') : Kp w W' rs :=
  ⟨fun r hr => (h.1 r hr).below hb, h.2.1.trans (hb.mono h.2.1.size), Utf8Tabs_below h.2.2 hb⟩
theorem Kp.drew {w W : World} {rs : List (Nat × Vt.P)} (h : Kp w W rs) : Kp w W.drew rs := h.below (Below.refl _ _).drew
theorem Kp.rec {w W : World} {rs : List (Nat × Vt.P)} (h : Kp w W rs) (j : Nat) {k : Nat} {p : Vt.P} (hj : rs[j]? = some (k, p)) : Pk W k p := h.1 (k, p) (List.mem_of_getElem? hj)
theorem Kp.more {w W : World} {rs : List (Nat × Vt.P)} (h : Kp w W rs) (p : Vt.P) : Kp w (W.alloc (.cells #[.int .i64 p.st, .string (ba p.pe), .string (ba p.bu)] 23)) (rs ++ [(W.heap.size, p)]) := by
  have hb := (Below.refl W.heap.size W).alloc (Nat.le_refl _) (.cells #[.int .i64 p.st, .string (ba p.pe), .string (ba p.bu)] 23)
  have h' := h.below hb
  refine ⟨fun r hr => ?_, h'.2⟩
  rw [List.mem_append] at hr
  rcases hr with hr | hr
  · exact h'.1 r hr
  · simp at hr
    subst hr
    exact Pk.laid W p
theorem Kp.start {w : World} (hT : Lib.Utf8Tabs 0 1 w) : Kp w w [] := ⟨(fun _ h => by cases h), Below.refl _ _, hT⟩
theorem Kp.alloc {w W : World} {rs : List (Nat × Vt.P)} (h : Kp w W rs) (o : Obj) : Kp w (W.alloc o) rs := h.below ((Below.refl _ _).alloc (Nat.le_refl _) o)
theorem feed_small (p : Vt.P) (l : List UInt8) : (Vt.feed p l).1.pe.length ≤ 900 ∧ (Vt.feed p l).1.bu.length ≤ 1000 := proper_small (Vt.feed_proper p l)

theorem Kp.base {w W : World} {rs : List (Nat × Vt.P)} (hT : Lib.Utf8Tabs 0 1 w) (h1 : ∀ r ∈ rs, Pk W r.1 r.2) (h2 : Below w.heap.size w W) : Kp w W rs := ⟨h1, h2, Utf8Tabs_below hT h2⟩
/-- The result of Feed in a block that is laid behind the call. -/
theorem fed_after {w w1 w2 : World} {rs : List (Nat × Vt.P)} {v : Value} {es : List Vt.E} (K : Kp w w1 rs) (hO : OutE w1.drew w2 v es) (q : Vt.P) :
    Kp w (w2.alloc (.cells #[.int .i64 q.st, .string (ba q.pe), .string (ba q.bu)] 23)) (rs ++ [(w2.heap.size, q)]) ∧ OutE w1 (w2.alloc (.cells #[.int .i64 q.st, .string (ba q.pe), .string (ba q.bu)] 23)) v es :=
  ⟨(K.drew.below hO.low).more q, (hO.rebase (Below.refl _ _).drew).alloc _⟩
/-- The result of Feed in a block that is laid ahead of the call. -/
theorem fed_before {w w1 w2 : World} {rs : List (Nat × Vt.P)} {v : Value} {es : List Vt.E} (hT : Lib.Utf8Tabs 0 1 w) (K : Kp w w1 rs) (hO : OutE (w1.alloc (.cells #[.int .i64 0, .string ⟨#[]⟩, .string ⟨#[]⟩] 23)).drew w2 v es) (q : Vt.P) :
    Kp w (((w2.setCell ⟨w1.heap.size, 0, none⟩ (.int .i64 q.st)).setCell ⟨w1.heap.size, 1, none⟩ (.string (ba q.pe))).setCell ⟨w1.heap.size, 2, none⟩ (.string (ba q.bu))) (rs ++ [(w1.heap.size, q)]) ∧
    OutE w1 (((w2.setCell ⟨w1.heap.size, 0, none⟩ (.int .i64 q.st)).setCell ⟨w1.heap.size, 1, none⟩ (.string (ba q.pe))).setCell ⟨w1.heap.size, 2, none⟩ (.string (ba q.bu))) v es := by
  have hs := K.2.1.size
  have hb : Below w1.heap.size w1 (w1.alloc (.cells #[.int .i64 0, .string ⟨#[]⟩, .string ⟨#[]⟩] 23)).drew := ((Below.refl w1.heap.size w1).alloc (Nat.le_refl _) _).drew
  have hl : Below w1.heap.size w1 w2 := hb.trans (hO.low.mono hb.size)
  have hz : Pk w2 w1.heap.size Vt.zero := ((Pk.laid w1 Vt.zero).drew).below hO.low
  refine ⟨Kp.base hT (fun r hr => ?_) (below_fill hs (K.2.1.trans (hl.mono hs)) _ _ _), ?_⟩
  · rw [List.mem_append] at hr
    rcases hr with hr | hr
    · have h1 := K.1 r hr
      have h2 := h1.lt
      have h3 : Pk w2 r.1 r.2 := (hl.block r.1 h2).trans h1
      exact ((h3.other (by omega) _).other (by omega) _).other (by omega) _
    · simp at hr
      subst hr
      exact hz.all q
  · have h1 : w1.heap.size < (w1.alloc (.cells #[.int .i64 0, .string ⟨#[]⟩, .string ⟨#[]⟩] 23)).drew.heap.size := by
      show w1.heap.size < (w1.alloc _).heap.size
      simp
    exact OutR.out ((hO.row.fill h1 _ _ _).less (Nat.le_of_lt h1)) (below_fill (Nat.le_refl _) hl _ _ _)
theorem fed_zero {w1 w2 : World} {v : Value} {es : List Vt.E} (hO : OutE (w1.alloc (.cells #[.int .i64 0, .string ⟨#[]⟩, .string ⟨#[]⟩] 23)).drew w2 v es) : Pk w2 w1.heap.size Vt.zero := ((Pk.laid w1 Vt.zero).drew).below hO.low

end Go.Proofs.YtihfjkjbeeoanaaDoor
