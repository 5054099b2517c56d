/-
  Slices of numbers: what is known of one that reads as a list, of one that a call makes, and how an append carries it on.
-/
import Derived.Test.YtgnkbcflkalhjaaDoorRows
import Derived.Test.YtgnkbcflkalhjaaDoorMoMath
import Derived.WalkKit
import Derived.WalkSpells
import Derived.WalkLawsBesides
import Derived.BigQuiet
import Derived.Laws.Rows
import Derived.Deep.QuietTactic
import Derived.Deep.Draws
import Derived.Lib.Hide
import Derived.Deep.Light
import Derived.Deep.LoopGhost
import Derived.Laws.AppendOwnNone
import Derived.Laws.OwnMore
namespace Go.Proofs.YtgnkbcflkalhjaaDoor
open Go.RowKit

theorem ret_bool {a b : Bool} (h : a = b) : Ending.returned (.bool a) = .returned (.bool b) := by rw [h]
theorem ret_int {k : IntKind} {a b : Int} (h : a = b) : Ending.returned (.int k a) = .returned (.int k b) := by rw [h]
theorem below_drewN {B : Nat} {a w : World} (h : Below B a w) (n : Nat) : Below B a (w.drewN n) := ⟨h.os, h.tape, h.output, h.size, h.block⟩

/-- The slice of length n at A reads, in the world w, as the numbers xs, and lies below block B. -/
def Nums (w : World) (B : Nat) (A : Option Addr) (n : Nat) (xs : List Int) : Prop :=
  xs.length = n ∧ ∀ j, j < n → ∃ b off, A = some ⟨b, off, none⟩ ∧ b < B ∧ w.cell? ⟨b, off + j, none⟩ = some (.int .i64 (xs.getD j 0))

theorem Nums.keep {w w' : World} {B : Nat} {A : Option Addr} {n : Nat} {xs : List Int} (h : Nums w B A n xs) (hk : ∀ b o, b < B → w'.cell? ⟨b, o, none⟩ = w.cell? ⟨b, o, none⟩) : Nums w' B A n xs :=
  ⟨h.1, fun j hj => by
    obtain ⟨b, off, e, hb, hc⟩ := h.2 j hj
    exact ⟨b, off, e, hb, (hk b _ hb).trans hc⟩⟩
theorem Nums.below {w w' : World} {B B' : Nat} {A : Option Addr} {n : Nat} {xs : List Int} (h : Nums w B A n xs) (hb : Below B' w w') (hB : B ≤ B') : Nums w' B A n xs :=
  h.keep fun b o hlt => hb.cell (p := ⟨b, o, none⟩) (Nat.lt_of_lt_of_le hlt hB)
theorem Nums.more {w : World} {B B' : Nat} {A : Option Addr} {n : Nat} {xs : List Int} (h : Nums w B A n xs) (hB : B ≤ B') : Nums w B' A n xs :=
  ⟨h.1, fun j hj => by
    obtain ⟨b, off, e, hb, hc⟩ := h.2 j hj
    exact ⟨b, off, e, by omega, hc⟩⟩
theorem Nums.alloc {w : World} {B : Nat} {A : Option Addr} {n : Nat} {xs : List Int} (h : Nums w B A n xs) (hB : B ≤ w.heap.size) (o : Obj) : Nums (w.alloc o) B A n xs :=
  h.keep fun b _ hlt => World.cell?_alloc_lt w o _ (by show b < w.heap.size; omega)
theorem Nums.drewN {w : World} {B : Nat} {A : Option Addr} {n : Nat} {xs : List Int} (h : Nums w B A n xs) (k : Nat) : Nums (w.drewN k) B A n xs := h
theorem Nums.of_own {w : World} {base : Nat} {e : TypeId} {A : Option Addr} {n c : Nat} {xs : List Int} (h : w.ownsRow base e 1 (.slice A n c) n (xs.map (Value.int .i64))) : Nums w w.heap.size A n xs := by
  have hl : xs.length = n := by have := h.1; simpa using this
  refine ⟨hl, fun j hj => ?_⟩
  rcases h.2 with ⟨_, h0⟩ | ⟨g, cap, cur, hv, _, hh, _, _, _, ht⟩
  · omega
  · have hA : A = some ⟨g, 0, none⟩ := by injection hv
    have hg : g < w.heap.size := by
      rcases Nat.lt_or_ge g w.heap.size with hlt | hge
      · exact hlt
      · rw [Array.getElem?_eq_none hge] at hh; cases hh
    refine ⟨g, 0, hA, hg, ?_⟩
    have hc : cur[j]? = some (.int .i64 (xs.getD j 0)) := by
      have e1 := congrArg (fun l : List Value => l[j]?) ht
      simp only [Nat.mul_one, List.getElem?_take, if_pos hj, Array.getElem?_toList, List.getElem?_map] at e1
      rw [e1, List.getElem?_eq_getElem (by omega), List.getD_eq_getElem?_getD, List.getElem?_eq_getElem (by omega)]
      rfl
    rw [Nat.zero_add]
    simp [World.cell?, hh, hc]

theorem Tryd.infoInt : (Tryd.prog.info? 3).map (fun i => (i.zero, i.size, i.bytes)) = some (some (.int .i64 0), 1, 8) := by kernel_rfl

/-- The call that began in w0 has made, so far, the numbers xs, in the slice v. -/
def Out (w0 w : World) (v : Value) (xs : List Int) : Prop :=
  w.ownsRow w0.heap.size 3 1 v xs.length (xs.map (Value.int .i64)) ∧ Below w0.heap.size w0 w

theorem Out.start (w : World) : Out w w (.slice none 0 0) [] := ⟨World.ownsRow_nil _ _ _ _, Below.refl _ _⟩
theorem Out.drewN {w0 w : World} {v : Value} {xs : List Int} (h : Out w0 w v xs) (n : Nat) : Out w0 (w.drewN n) v xs := ⟨h.1, below_drewN h.2 n⟩
theorem owns_below {w w' : World} {base : Nat} {e : TypeId} {size : Nat} {v : Value} {n : Nat} {xs : List Value} (h : w.ownsRow base e size v n xs) (hb : Below w.heap.size w w') : w'.ownsRow base e size v n xs := by
  refine ⟨h.1, ?_⟩
  rcases h.2 with hn | ⟨g, cap, cur, rfl, hbase, hg, rest⟩
  · exact .inl hn
  · refine .inr ⟨g, cap, cur, rfl, hbase, ?_, rest⟩
    have hlt : g < w.heap.size := by
      rcases Nat.lt_or_ge g w.heap.size with hlt | hge
      · exact hlt
      · rw [Array.getElem?_eq_none hge] at hg; cases hg
    exact (hb.block g hlt).trans hg
theorem Out.below {w0 w w' : World} {v : Value} {xs : List Int} (h : Out w0 w v xs) (hb : Below w.heap.size w w') : Out w0 w' v xs :=
  ⟨owns_below h.1 hb, h.2.trans (hb.mono h.2.size)⟩
theorem Out.alloc {w0 w : World} {v : Value} {xs : List Int} (h : Out w0 w v xs) (o : Obj) : Out w0 (w.alloc o) v xs :=
  h.below ((Below.refl _ _).alloc (Nat.le_refl _) o)
/-- Its value is a slice that reads as the numbers. -/
theorem Out.slice {w0 w : World} {v : Value} {xs : List Int} (h : Out w0 w v xs) : ∃ A cap, v = .slice A xs.length cap := by
  rcases h.1.2 with ⟨e, e0⟩ | ⟨g, cap, cur, e, _⟩
  · rw [e0]; exact ⟨none, 0, e⟩
  · exact ⟨_, cap, e⟩
theorem Out.nums {w0 w : World} {A : Option Addr} {cap n : Nat} {xs : List Int} (h : Out w0 w (.slice A n cap) xs) : n = xs.length ∧ Nums w w.heap.size A n xs := by
  have e : n = xs.length := by
    obtain ⟨A', c', e⟩ := h.slice
    injection e
  subst e
  exact ⟨rfl, Nums.of_own h.1⟩

theorem Out.reads {w0 w : World} {v : Value} {xs : List Int} (h : Out w0 w v xs) : ∃ A n cap, v = .slice A n cap ∧ Nums w w.heap.size A n xs := by
  obtain ⟨A, cap, e⟩ := h.slice
  subst e
  exact ⟨A, _, cap, rfl, h.nums.2⟩
/-- An empty slice that was just laid. -/
theorem Out.laid (w : World) : Out w (w.alloc (.cells #[] 3)) (.slice (some ⟨w.heap.size, 0, none⟩) 0 0) [] :=
  ⟨World.ownsRow_made w #[] 0 (Nat.le_refl _) (Nat.zero_le _) rfl, (Below.refl _ _).alloc (Nat.le_refl _) _⟩

set_option maxRecDepth 100000 in
/-- append of a whole slice, nil or not, that reads as ys. -/
theorem wpList_join {ops : Array Oper} {rest : List Oper} {o : Oper} {a : Act} {Q : Exit → Act → World → Prop} (hgd : o.guard = none) (s x : Operand)
    (ho : o.op = .call { callee := .builtin .append, args := #[s, x], argTypes := #[25, 25] })
    (w0 w : World) (v : Value) (xs ys : List Int) (A : Option Addr) (m c B : Nat) (hs : a.eval s = v) (hx : a.eval x = .slice A m c) (hout : Out w0 w v xs) (hn : Nums w B A m ys) (hnil : A = none → m = 0 ∧ c = 0) (hl : xs.length + ys.length ≤ 100000)
    (h : ∀ v' w1, Out w0 w1 v' (xs ++ ys) → wpList Tryd.prog ops Q rest (a.put o.dst v') w1) : wpList Tryd.prog ops Q (o :: rest) a w := by
  obtain ⟨i0, hi, hz0, hz1, hz2⟩ := info_parts Tryd.infoInt
  have hsz := hout.2.size
  have hm : ys.length = m := hn.1
  cases A with
  | none =>
    obtain ⟨rfl, rfl⟩ := hnil rfl
    have hy : ys = [] := List.eq_nil_of_length_eq_zero hm
    subst hy
    refine wpList_append_own_none hgd s x 25 ho w0.heap.size 3 i0 1 Tryd.underlying25 hi v xs.length (xs.map (Value.int .i64)) hs hout.1 hx ?_
    exact h v w (by rw [List.append_nil]; exact hout)
  | some ad =>
    refine wpList_append_own _ hgd s x 25 ho w0.heap.size 3 i0 (.int .i64 0) 1 8 Tryd.underlying25 hi hz0 hz1 hz2 rfl (by decide) v xs.length (xs.map (Value.int .i64)) hs hout.1 ad m c (ys.map (Value.int .i64)) hx (by simp [hm]) ?_ ?_ ?_ ?_ ?_ ?_
    · intro j u hj
      have hjm : j < m := by
        rw [← hm]
        rcases Nat.lt_or_ge j ys.length with h1 | h1
        · exact h1
        · rw [List.getElem?_eq_none (by simpa using h1)] at hj; cases hj
      obtain ⟨b, off, e, _, hc⟩ := hn.2 j hjm
      injection e with e
      subst e
      have hu : u = .int .i64 (ys.getD j 0) := by
        have hjy : j < ys.length := by omega
        simp [hjy] at hj
        simp [hjy, ← hj]
      subst hu
      by_cases h0 : j = 0
      · subst h0; simpa [Addr.add] using hc
      · simpa [Addr.add, h0] using hc
    · intro u hu
      simp only [List.mem_map] at hu
      obtain ⟨z, _, rfl⟩ := hu
      rfl
    · unfold maxLen; omega
    · omega
    · exact hsz
    · intro v' w1 hown hgrow _
      refine h v' w1 ⟨?_, ?_⟩
      · have e : (xs ++ ys).length = xs.length + m := by rw [List.length_append, hm]
        rw [e, List.map_append]
        exact hown
      · exact hout.2.grown hgrow hsz (fun k hk => (hout.1.lt k hk).1)

/-- A guarded operation whose guard has come out as asked is taken as one without a guard. -/
theorem wpList_guarded {ops : Array Oper} {rest : List Oper} {o : Oper} {a : Act} {w : World} {Q : Exit → Act → World → Prop} (hw : Region.wanted o (yielded ops a.tmps) = true)
    (h : wpList Tryd.prog ops Q ({ o with guard := none } :: rest) a w) : wpList Tryd.prog ops Q (o :: rest) a w := by
  unfold wpList at h ⊢
  rw [if_pos hw]
  rw [if_pos (by simp [Region.wanted])] at h
  exact h

/-- append of one number that was just laid. -/
theorem wpList_push {ops : Array Oper} {rest : List Oper} {o : Oper} {a : Act} {Q : Exit → Act → World → Prop} (hgd : o.guard = none) (s x : Operand)
    (ho : o.op = .call { callee := .builtin .append, args := #[s, x], argTypes := #[25, 25] })
    (w0 w : World) (v : Value) (xs : List Int) (z : Int) (hs : a.eval s = v) (hx : a.eval x = .slice (some ⟨w.heap.size, 0, none⟩) 1 1) (hout : Out w0 w v xs) (hl : xs.length ≤ 100000)
    (h : ∀ v' w1, Out w0 w1 v' (xs ++ [z]) → wpList Tryd.prog ops Q rest (a.put o.dst v') w1) : wpList Tryd.prog ops Q (o :: rest) a (w.alloc (.cells #[.int .i64 z] 3)) := by
  obtain ⟨i0, hi, hz0, hz1, hz2⟩ := info_parts Tryd.infoInt
  have hsz := hout.2.size
  refine wpList_append_own _ hgd s x 25 ho w0.heap.size 3 i0 (.int .i64 0) 1 8 Tryd.underlying25 hi hz0 hz1 hz2 rfl (by decide) v xs.length (xs.map (Value.int .i64)) hs (hout.1.alloc _) ⟨w.heap.size, 0, none⟩ 1 1 [.int .i64 z] hx rfl ?_ ?_ ?_ ?_ ?_ ?_
  · intro j u hj
    match j, hj with
    | 0, hj => simp at hj; subst hj; simp [Addr.add]
  · intro u hu; simp at hu; subst hu; rfl
  · unfold maxLen; omega
  · omega
  · simp; omega
  · intro v' w1 hown hgrow _
    refine h v' w1 ⟨by simpa using hown, ?_⟩
    exact (hout.2.alloc hsz _).grown hgrow (by simp; omega) (fun k hk => (hout.1.lt k hk).1)

/-- What a call that began in w leaves: a slice that reads as xs, and nothing that was there has turned. -/
def Gives (w w' : World) (A : Option Addr) (n cap : Nat) (xs : List Int) : Prop :=
  Nums w' w'.heap.size A n xs ∧ ((A = none → n = 0 ∧ cap = 0) ∧ ∀ b off, A = some ⟨b, off, none⟩ → w.heap.size ≤ b) ∧ Below w.heap.size w w'
theorem Out.gives {w w' : World} {A : Option Addr} {n cap : Nat} {xs : List Int} (h : Out w w' (.slice A n cap) xs) : Gives w w' A n cap xs := by
  refine ⟨h.nums.2, ⟨fun e => ?_, fun b off e => ?_⟩, h.2⟩
  · subst e
    rcases h.1.2 with ⟨e, _⟩ | ⟨g, c, cur, e, _⟩
    · injection e with _ e1 e2; exact ⟨e1, e2⟩
    · injection e with e1; cases e1
  · subst e
    rcases h.1.2 with ⟨e, _⟩ | ⟨g, c, cur, e, hg, _⟩
    · injection e with e1; cases e1
    · injection e with e1
      injection e1 with e1
      injection e1 with e1
      subst e1
      exact hg
theorem Gives.length {w w' : World} {A : Option Addr} {n cap : Nat} {xs : List Int} (h : Gives w w' A n cap xs) : n = xs.length := h.1.1.symm


theorem Out.made (w : World) (zs : List Int) (hl : zs.length ≤ 1000) : Out w (w.alloc (.cells (zs.map (Value.int .i64)).toArray 3)) (.slice (some ⟨w.heap.size, 0, none⟩) zs.length zs.length) zs := by
  refine ⟨⟨by simp, .inr ⟨w.heap.size, zs.length, (zs.map (Value.int .i64)).toArray, rfl, Nat.le_refl _, heap_alloc_new w _, Nat.le_refl _, by unfold maxLen; omega, by simp, ?_⟩⟩, (Below.refl _ w).alloc (Nat.le_refl _) _⟩
  simp [List.take_of_length_le]

end Go.Proofs.YtgnkbcflkalhjaaDoor
