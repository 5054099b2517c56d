/-
  Two slices of numbers that a call grows side by side, and a slice of bytes that reads as a list.
-/
import Derived.Test.YtodcjdglnfgdpaaDoorKe
import Derived.Maps.AppendAt
namespace Go.Proofs.YtodcjdglnfgdpaaDoor
open Go.RowKit

/-- The call that began in w0 has made the numbers xs in the slice v and the numbers ys in the slice u, in two rows. -/
def Pr (w0 w : World) (v : Value) (xs : List Int) (u : Value) (ys : List Int) : Prop :=
  w.ownsRow w0.heap.size 3 1 v xs.length (xs.map (Value.int .i64)) ∧ w.ownsRow w0.heap.size 3 1 u ys.length (ys.map (Value.int .i64)) ∧ Below w0.heap.size w0 w ∧ ∀ k, v.ownBlock = some k → u.ownBlock ≠ some k
theorem Pr.symm {w0 w : World} {v u : Value} {xs ys : List Int} (h : Pr w0 w v xs u ys) : Pr w0 w u ys v xs := ⟨h.2.1, h.1, h.2.2.1, fun k hu hv => h.2.2.2 k hv hu⟩
theorem Pr.left {w0 w : World} {v u : Value} {xs ys : List Int} (h : Pr w0 w v xs u ys) : Out w0 w v xs := ⟨h.1, h.2.2.1⟩
theorem Pr.start (w : World) : Pr w ((w.alloc (.cells #[] 3)).alloc (.cells #[] 3)) (.slice (some ⟨w.heap.size, 0, none⟩) 0 0) [] (.slice (some ⟨w.heap.size + 1, 0, none⟩) 0 0) [] := by
  refine ⟨(World.ownsRow_made w #[] 0 (Nat.le_refl _) (Nat.zero_le _) rfl).alloc _, ?_, ((Below.refl _ _).alloc (Nat.le_refl _) _).alloc (by simp) _, fun k hk => ?_⟩
  · have h := World.ownsRow_made (base := w.heap.size) (e := 3) (size := 1) (w.alloc (.cells #[] 3)) #[] 0 (by simp) (Nat.zero_le _) rfl
    have e : (w.alloc (.cells #[] 3)).heap.size = w.heap.size + 1 := by simp
    rw [e] at h
    exact h
  · simp [Value.ownBlock] at hk ⊢
    omega
theorem Pr.alloc {w0 w : World} {v u : Value} {xs ys : List Int} (h : Pr w0 w v xs u ys) (o : Obj) : Pr w0 (w.alloc o) v xs u ys := ⟨h.1.alloc o, h.2.1.alloc o, h.2.2.1.alloc h.2.2.1.size o, h.2.2.2⟩
theorem wpList_push_pair {ops : Array Oper} {rest : List Oper} {o : Oper} {a : Act} {Q : Exit → Act → World → Prop} (hgd : o.guard = none) (s x : Operand)
    (ho : o.op = .call { callee := .builtin .append, args := #[s, x], argTypes := #[24, 24] })
    (w0 w : World) (v u : Value) (xs ys : List Int) (z : Int) (hs : a.eval s = v) (hx : a.eval x = .slice (some ⟨w.heap.size, 0, none⟩) 1 1) (h2 : Pr w0 w v xs u ys) (hl : xs.length ≤ 100000)
    (h : ∀ v' w1, Pr w0 w1 v' (xs ++ [z]) u ys → wpList Tryd.prog ops Q rest (a.put o.dst v') w1) : wpList Tryd.prog ops Q (o :: rest) a (w.alloc (.cells #[.int .i64 z] 3)) := by
  obtain ⟨i0, hi, hz0, hz1, hz2⟩ := info_parts Tryd.infoInt
  have hsz := h2.2.2.1.size
  have h3 := h2.alloc (.cells #[.int .i64 z] 3)
  refine wpList_append_own_at _ hgd s x 24 ho w0.heap.size 3 i0 (.int .i64 0) 1 8 Tryd.underlying24 hi hz0 hz1 hz2 rfl (by decide) v xs.length (xs.map (Value.int .i64)) hs h3.1 ⟨w.heap.size, 0, none⟩ 1 1 [.int .i64 z] hx rfl ?_ ?_ ?_ ?_ ?_ ?_
  · intro j u hj
    match j, hj with
    | 0, hj => simp at hj; subst hj; simp [Addr.add]
  · intro u hu; simp at hu; subst hu; rfl
  · unfold maxLen; omega
  · omega
  · simp; omega
  · intro v' w1 hown hgrow _ hat
    refine h v' w1 ⟨by simpa using hown, h3.2.1.kept hgrow ?_, h3.2.2.1.grown hgrow (by simp; omega) (fun k hk => (h3.1.lt k hk).1), fun k hk hu => ?_⟩
    · cases hu : u.ownBlock with
      | none => exact .inl rfl
      | some k =>
        right
        intro e
        exact h3.2.2.2 k e.symm hu
    · rcases hat with e | e
      · rw [e] at hk
        exact h3.2.2.2 k hk hu
      · rw [e] at hk
        have := (h3.2.1.lt k hu).2
        injection hk with hk
        omega

/-- The slice of length n at A reads, in the world w, as the bytes xs, and lies below block B. -/
def Byts (w : World) (B : Nat) (A : Option Addr) (n : Nat) (xs : List Int) : Prop :=
  xs.length = n ∧ ∀ j, j < n → ∃ b off, A = some ⟨b, off, none⟩ ∧ b < B ∧ w.cell? ⟨b, off + j, none⟩ = some (.int .u8 (xs.getD j 0))
theorem Byts.below {w w' : World} {B : Nat} {A : Option Addr} {n : Nat} {xs : List Int} (h : Byts w B A n xs) (hb : Below B w w') : Byts w' B A n xs :=
  ⟨h.1, fun j hj => by
    obtain ⟨b, off, e, hlt, hc⟩ := h.2 j hj
    exact ⟨b, off, e, hlt, (hb.cell (p := ⟨b, off + j, none⟩) hlt).trans hc⟩⟩

/-- The low and the high numbers of bytes. -/
def lows (xs : List Int) : List Int := xs.map fun x => 1 + x % 29
def highs (xs : List Int) : List Int := (xs.map fun x => 30 + x).filter fun k => k != 38 && k != 48
theorem take_snoc (xs : List Int) (k : Nat) (hk : k < xs.length) : xs.take (k + 1) = xs.take k ++ [xs.getD k 0] := by
  rw [List.take_succ_eq_append_getElem hk]
  simp [List.getD_eq_getElem?_getD, hk]
theorem lows_step (xs : List Int) (k : Nat) (hk : k < xs.length) : lows (xs.take (k + 1)) = lows (xs.take k) ++ [1 + xs.getD k 0 % 29] := by
  rw [take_snoc xs k hk]
  unfold lows
  rw [List.map_append]
  rfl
theorem highs_step (xs : List Int) (k : Nat) (hk : k < xs.length) : highs (xs.take (k + 1)) = highs (xs.take k) ++ if (30 + xs.getD k 0 != 38 && 30 + xs.getD k 0 != 48) = true then [30 + xs.getD k 0] else [] := by
  rw [take_snoc xs k hk]
  unfold highs
  rw [List.map_append, List.filter_append]
  congr 1
  generalize xs.getD k 0 = x
  cases h : (30 + x != 38 && 30 + x != 48) <;> simp [List.filter, h]
theorem lows_len (xs : List Int) : (lows xs).length = xs.length := by unfold lows; simp
theorem highs_len (xs : List Int) : (highs xs).length ≤ xs.length := by
  unfold highs
  refine Nat.le_trans (List.length_filter_le _ _) ?_
  simp
theorem lows_range {xs : List Int} (h : ∀ z ∈ xs, 0 ≤ z ∧ z ≤ 255) : ∀ n ∈ lows xs, 1 ≤ n ∧ n ≤ 29 := by
  intro n hn
  unfold lows at hn
  obtain ⟨x, hx, rfl⟩ := List.mem_map.1 hn
  have := h x hx
  omega
theorem highs_range {xs : List Int} (h : ∀ z ∈ xs, 0 ≤ z ∧ z ≤ 255) : ∀ n ∈ highs xs, (30 ≤ n ∧ n ≤ 285) ∧ ¬ (n = 38 ∨ n = 48) := by
  intro n hn
  unfold highs at hn
  rw [List.mem_filter, List.mem_map] at hn
  obtain ⟨⟨x, hx, rfl⟩, hq⟩ := hn
  have := h x hx
  simp at hq
  omega
theorem low_keeps (a : At.R) {l : List Int} (h : ∀ n ∈ l, 1 ≤ n ∧ n ≤ 29) (h0 : l.length ≠ 0) : (At.apply a l).f = a.f ∧ (At.apply a l).b = a.b := by
  unfold At.apply
  rw [if_neg h0, At.nn_pos fun n hn => by have := h n hn; omega]
  exact At.run_low l h a
theorem high_keeps (a : At.R) {l : List Int} (h : ∀ n ∈ l, (30 ≤ n ∧ n ≤ 285) ∧ ¬ (n = 38 ∨ n = 48)) (h0 : l.length ≠ 0) : (At.apply a l).g = a.g := by
  unfold At.apply
  rw [if_neg h0, At.nn_pos fun n hn => by have := h n hn; omega]
  exact At.run_high l (fun n hn => ⟨(h n hn).1.1, (h n hn).2⟩) a

end Go.Proofs.YtodcjdglnfgdpaaDoor
