/-
  A slice of numbers that a call makes by appending one number after the other: what is known of it, and how an append carries it on.
-/
import Derived.Test.YtihfjkjbeeoanaaDoorSmall
namespace Go.Proofs.YtihfjkjbeeoanaaDoor
open Go.RowKit

theorem Tryd.infoRune : (Tryd.prog.info? 21).map (fun i => (i.zero, i.size, i.bytes)) = some (some (.int .i32 0), 1, 4) := by kernel_rfl

/-- The call that began in w0 has made, so far, the numbers xs, in the slice v. -/
def Out (w0 w : World) (v : Value) (xs : List Int) : Prop :=
  w.ownsRow w0.heap.size 21 1 v xs.length (xs.map (Value.int .i32)) ∧ Below w0.heap.size w0 w

theorem Out.start (w : World) : Out w w (.slice none 0 0) [] := ⟨World.ownsRow_nil _ _ _ _, Below.refl _ _⟩
theorem below_drewN {B : Nat} {a w : World} (h : Below B a w) (n : Nat) : Below B a (w.drewN n) := ⟨h.os, h.tape, h.output, h.size, h.block⟩
theorem Out.drewN {w0 w : World} {v : Value} {xs : List Int} (h : Out w0 w v xs) (n : Nat) : Out w0 (w.drewN n) v xs := ⟨h.1, below_drewN h.2 n⟩
theorem owns_below {w w' : World} {base : Nat} {e : TypeId} {size : Nat} {v : Value} {n : Nat} {xs : List Value} (h : w.ownsRow base e size v n xs) (hb : Below w.heap.size w w') : w'.ownsRow base e size v n xs := by
  refine ⟨h.1, ?_⟩
  rcases h.2 with hn | ⟨g, cap, cur, rfl, hbase, hg, rest⟩
  · exact .inl hn
  · refine .inr ⟨g, cap, cur, rfl, hbase, ?_, rest⟩
    have hlt : g < w.heap.size := by
      rcases Nat.lt_or_ge g w.heap.size with hlt | hge
      · exact hlt
      · rw [Array.getElem?_eq_none hge] at hg; cases hg
    exact (hb.block g hlt).trans hg
theorem Out.below {w0 w w' : World} {v : Value} {xs : List Int} (h : Out w0 w v xs) (hb : Below w.heap.size w w') : Out w0 w' v xs :=
  ⟨owns_below h.1 hb, h.2.trans (hb.mono h.2.size)⟩
theorem Out.alloc {w0 w : World} {v : Value} {xs : List Int} (h : Out w0 w v xs) (o : Obj) : Out w0 (w.alloc o) v xs :=
  h.below ((Below.refl _ _).alloc (Nat.le_refl _) o)
/-- Its value is a slice that reads as the numbers. -/
theorem Out.slice {w0 w : World} {v : Value} {xs : List Int} (h : Out w0 w v xs) : ∃ A cap, v = .slice A xs.length cap := by
  rcases h.1.2 with ⟨e, e0⟩ | ⟨g, cap, cur, e, _⟩
  · rw [e0]; exact ⟨none, 0, e⟩
  · exact ⟨_, cap, e⟩
theorem Out.nums {w0 w : World} {A : Option Addr} {cap n : Nat} {xs : List Int} (h : Out w0 w (.slice A n cap) xs) : n = xs.length ∧ Nums w w.heap.size A n xs := by
  have e : n = xs.length := by
    obtain ⟨A', c', e⟩ := h.slice
    injection e
  subst e
  exact ⟨rfl, Nums.of_own h.1⟩

/-- append of one number that was just laid. -/
theorem wpList_push {ops : Array Oper} {rest : List Oper} {o : Oper} {a : Act} {Q : Exit → Act → World → Prop} (hgd : o.guard = none) (s x : Operand)
    (ho : o.op = .call { callee := .builtin .append, args := #[s, x], argTypes := #[36, 36] })
    (w0 w : World) (v : Value) (xs : List Int) (z : Int) (hs : a.eval s = v) (hx : a.eval x = .slice (some ⟨w.heap.size, 0, none⟩) 1 1) (hout : Out w0 w v xs) (hl : xs.length ≤ 100000)
    (h : ∀ v' w1, Out w0 w1 v' (xs ++ [z]) → wpList Tryd.prog ops Q rest (a.put o.dst v') w1) : wpList Tryd.prog ops Q (o :: rest) a (w.alloc (.cells #[.int .i32 z] 21)) := by
  obtain ⟨i0, hi, hz0, hz1, hz2⟩ := info_parts Tryd.infoRune
  have hsz := hout.2.size
  refine wpList_append_own _ hgd s x 36 ho w0.heap.size 21 i0 (.int .i32 0) 1 4 Tryd.underlying36 hi hz0 hz1 hz2 rfl (by decide) v xs.length (xs.map (Value.int .i32)) hs (hout.1.alloc _) ⟨w.heap.size, 0, none⟩ 1 1 [.int .i32 z] hx rfl ?_ ?_ ?_ ?_ ?_ ?_
  · intro j u hj
    match j, hj with
    | 0, hj => simp at hj; subst hj; simp [Addr.add]
  · intro u hu; simp at hu; subst hu; rfl
  · unfold maxLen; omega
  · omega
  · simp; omega
  · intro v' w1 hown hgrow _
    refine h v' w1 ⟨by simpa using hown, ?_⟩
    exact (hout.2.alloc hsz _).grown hgrow (by simp; omega) (fun k hk => (hout.1.lt k hk).1)

end Go.Proofs.YtihfjkjbeeoanaaDoor
