/-
  What a statement of layer 11 knows of its memory: modes in blocks of its own; the contracts as its walk uses them.
-/
import Derived.Test.YtgnkbcflkalhjaaDoorMoAwake
import Derived.Test.YtgnkbcflkalhjaaDoorMoEq
import Derived.Laws.CopyOwn
namespace Go.Proofs.YtgnkbcflkalhjaaDoor
open Go.RowKit Mo

def Mm (w U : World) (ks : List (Nat × M)) : Prop := Below w.heap.size w U ∧ ∀ x ∈ ks, Md U x.1 x.2
theorem Mm.below {w U U' : World} {ks : List (Nat × M)} (h : Mm w U ks) (hb : Below U.heap.size U U') : Mm w U' ks := ⟨below_step h.1 hb, fun x hx => (h.2 x hx).below hb⟩
theorem Mm.start (w : World) (m : M) : Mm w (w.alloc (.cells #[.bool m.f0, .bool m.f1, .bool m.f2, .bool m.f3, .bool m.f4, .bool m.f5, .bool m.f6, .bool m.f7, .int .u8 m.s0, .int .u8 m.s1, .int .i64 m.sh] 24)) [(w.heap.size, m)] := ⟨below_alloc _ _, fun x hx => by simp at hx; subst hx; exact Md.laid w m⟩
theorem Mm.more {w U : World} {ks : List (Nat × M)} (h : Mm w U ks) (m : M) : Mm w (U.alloc (.cells #[.bool m.f0, .bool m.f1, .bool m.f2, .bool m.f3, .bool m.f4, .bool m.f5, .bool m.f6, .bool m.f7, .int .u8 m.s0, .int .u8 m.s1, .int .i64 m.sh] 24)) (ks ++ [(U.heap.size, m)]) := by
  have h' := h.below (below_alloc U (.cells #[.bool m.f0, .bool m.f1, .bool m.f2, .bool m.f3, .bool m.f4, .bool m.f5, .bool m.f6, .bool m.f7, .int .u8 m.s0, .int .u8 m.s1, .int .i64 m.sh] 24))
  refine ⟨h'.1, fun z hz => ?_⟩
  rw [List.mem_append] at hz
  rcases hz with hz | hz
  · exact h'.2 z hz
  · simp at hz
    subst hz
    exact Md.laid U m
theorem Mm.at {w U : World} {ks : List (Nat × M)} (h : Mm w U ks) (j : Nat) {k : Nat} {m : M} (hj : ks[j]? = some (k, m)) : Md U k m := h.2 _ (List.mem_of_getElem? hj)

theorem Mm.three (w : World) (m n : M) : Mm w (((w.alloc (.cells #[.bool m.f0, .bool m.f1, .bool m.f2, .bool m.f3, .bool m.f4, .bool m.f5, .bool m.f6, .bool m.f7, .int .u8 m.s0, .int .u8 m.s1, .int .i64 m.sh] 24)).alloc (.cells #[.bool n.f0, .bool n.f1, .bool n.f2, .bool n.f3, .bool n.f4, .bool n.f5, .bool n.f6, .bool n.f7, .int .u8 n.s0, .int .u8 n.s1, .int .i64 n.sh] 24)).alloc (.cells #[.bool m.f0, .bool m.f1, .bool m.f2, .bool m.f3, .bool m.f4, .bool m.f5, .bool m.f6, .bool m.f7, .int .u8 m.s0, .int .u8 m.s1, .int .i64 m.sh] 24)) [(w.heap.size, m), (w.heap.size + 1, n), (w.heap.size + 1 + 1, m)] := by
  refine ⟨below_step (below_step (below_alloc _ _) (below_alloc _ _)) (below_alloc _ _), fun x hx => ?_⟩
  simp only [List.mem_cons, List.not_mem_nil, or_false] at hx
  rcases hx with rfl | rfl | rfl
  · exact ((Md.laid w m).below (below_alloc _ _)).below (below_alloc _ _)
  · exact (Md.put _ (by simp) n).below (below_alloc _ _)
  · exact Md.put _ (by simp) m

theorem one_cells (m : M) : (#[.bool m.f0, .bool m.f1, .bool m.f2, .bool m.f3, .bool m.f4, .bool m.f5, .bool m.f6, .bool m.f7, .int .u8 m.s0, .int .u8 m.s1, .int .i64 m.sh] : Array Value).all (·.oneCell') = true := by simp [Value.oneCell']
theorem Md.row {w : World} {k : Nat} {m : M} (h : Md w k m) (x : M) : Md (w.setRow k #[.bool x.f0, .bool x.f1, .bool x.f2, .bool x.f3, .bool x.f4, .bool x.f5, .bool x.f6, .bool x.f7, .int .u8 x.s0, .int .u8 x.s1, .int .i64 x.sh]) k x := setRow_heap w k _ _ _ _ h
theorem Md.rowOther {w : World} {k k' : Nat} {m : M} (h : Md w k m) (hk : k ≠ k') (cs : Array Value) : Md (w.setRow k' cs) k m := (setRow_other w k' k cs hk).trans h
theorem Mm.rebase {w b U : World} {ks : List (Nat × M)} (h : Mm b U ks) (hb : Below w.heap.size w b) : Mm w U ks := ⟨below_step hb h.1, h.2⟩
theorem Mm.two {b U : World} {ks : List (Nat × M)} (h : Mm b U ks) (hlt : ∀ x ∈ ks, x.1 < b.heap.size) (k2 k3 : Nat) (d s : M) (z2 : Md U k2 zero) (z3 : Md U k3 zero) (hk : k2 ≠ k3) (h2 : b.heap.size ≤ k2) (h3 : b.heap.size ≤ k3) :
    Mm b ((U.setRow k2 #[.bool d.f0, .bool d.f1, .bool d.f2, .bool d.f3, .bool d.f4, .bool d.f5, .bool d.f6, .bool d.f7, .int .u8 d.s0, .int .u8 d.s1, .int .i64 d.sh]).setRow k3 #[.bool s.f0, .bool s.f1, .bool s.f2, .bool s.f3, .bool s.f4, .bool s.f5, .bool s.f6, .bool s.f7, .int .u8 s.s0, .int .u8 s.s1, .int .i64 s.sh]) (ks ++ [(k2, d), (k3, s)]) := by
  refine ⟨below_setRow (below_setRow h.1 h2 _) h3 _, fun x hx => ?_⟩
  rw [List.mem_append] at hx
  rcases hx with hx | hx
  · have := hlt x hx
    exact ((h.2 x hx).rowOther (by omega) _).rowOther (by omega) _
  · simp only [List.mem_cons, List.not_mem_nil, or_false] at hx
    rcases hx with rfl | rfl
    · exact (z2.row d).rowOther hk _
    · exact (z3.rowOther (Ne.symm hk) _).row s

section
variable {w : World} {A : Option Addr} {n c : Nat} {l : List Int}
theorem set_at (m x : M) (p : Int) (on : Bool) (hl : n ≤ 1000) (hN : Nums w w.heap.size A n l) (hx : set m p l on = x) (U : World) (hU : Below w.heap.size w U) :
    Calls Tryd.prog 14 #[.agg #[.bool m.f0, .bool m.f1, .bool m.f2, .bool m.f3, .bool m.f4, .bool m.f5, .bool m.f6, .bool m.f7, .int .u8 m.s0, .int .u8 m.s1, .int .i64 m.sh], .int .u8 p, .slice A n c, .bool on] U fun e w' => e = .returned (.agg #[.bool x.f0, .bool x.f1, .bool x.f2, .bool x.f3, .bool x.f4, .bool x.f5, .bool x.f6, .bool x.f7, .int .u8 x.s0, .int .u8 x.s1, .int .i64 x.sh]) ∧ Below U.heap.size U w' :=
  set_any m x p on A n c w.heap.size l hl U (hN.below hU (Nat.le_refl _)) hU.size hx
theorem awake_at (hT : Tb w) (U : World) (hU : Below w.heap.size w U) : Calls Tryd.prog 11 #[] U fun e w' => e = .returned (.bool true) ∧ Below U.heap.size U w' := awake_any U (hT.below hU)
theorem map_at (hT : Tb w) (m : M) (r y : Int) (hy : mapc (act m) r = y) (U : World) (hU : Below w.heap.size w U) : Calls Tryd.prog 20 #[.agg #[.bool m.f0, .bool m.f1, .bool m.f2, .bool m.f3, .bool m.f4, .bool m.f5, .bool m.f6, .bool m.f7, .int .u8 m.s0, .int .u8 m.s1, .int .i64 m.sh], .int .i32 r] U fun e w' => e = .returned (.int .i32 y) ∧ Below U.heap.size U w' := by
  subst hy
  exact map_any m r U (hT.below hU)
end
end Go.Proofs.YtgnkbcflkalhjaaDoor
