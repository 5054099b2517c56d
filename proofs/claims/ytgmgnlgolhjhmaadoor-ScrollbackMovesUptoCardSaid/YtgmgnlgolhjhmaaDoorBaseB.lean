/-
  Cells, rows of cells in memory, and the small functions of cellrow.
-/
import Derived.Test.YtgmgnlgolhjhmaaDoorProg
import Derived.Test.YtgmgnlgolhjhmaaDoorBaseA
import Derived.WalkKit
import Derived.WalkSpells
import Derived.WalkLawsBesides
import Derived.BigQuiet
import Derived.Deep.QuietTactic
import Derived.Deep.Draws
import Derived.Lib.Hide
import Derived.Deep.Light
import Derived.Deep.LoopGhost
import Derived.ArgAppend
import Derived.Laws.AppendOwnNone
import Derived.Laws.OwnMore
import Derived.Laws.Bits64b
import Derived.Laws.CopyRow
import Derived.Laws.MakeOwn
namespace Go.Proofs.YtgmgnlgolhjhmaaDoor
open Go.RowKit

/-- The slice of length n at A reads, in the world w, as the numbers xs, and lies below block B. -/
def Nums (w : World) (B : Nat) (A : Option Addr) (n : Nat) (xs : List Int) : Prop :=
  xs.length = n ∧ ∀ j, j < n → ∃ b off, A = some ⟨b, off, none⟩ ∧ b < B ∧ w.cell? ⟨b, off + j, none⟩ = some (.int .i32 (xs.getD j 0))

theorem Nums.keep {w w' : World} {B : Nat} {A : Option Addr} {n : Nat} {xs : List Int} (h : Nums w B A n xs) (hk : ∀ b o, b < B → w'.cell? ⟨b, o, none⟩ = w.cell? ⟨b, o, none⟩) : Nums w' B A n xs :=
  ⟨h.1, fun j hj => by
    obtain ⟨b, off, e, hb, hc⟩ := h.2 j hj
    exact ⟨b, off, e, hb, (hk b _ hb).trans hc⟩⟩
theorem Nums.below {w w' : World} {B B' : Nat} {A : Option Addr} {n : Nat} {xs : List Int} (h : Nums w B A n xs) (hb : Below B' w w') (hB : B ≤ B') : Nums w' B A n xs :=
  h.keep fun b o hlt => hb.cell (p := ⟨b, o, none⟩) (Nat.lt_of_lt_of_le hlt hB)
theorem Nums.more {w : World} {B B' : Nat} {A : Option Addr} {n : Nat} {xs : List Int} (h : Nums w B A n xs) (hB : B ≤ B') : Nums w B' A n xs :=
  ⟨h.1, fun j hj => by
    obtain ⟨b, off, e, hb, hc⟩ := h.2 j hj
    exact ⟨b, off, e, by omega, hc⟩⟩
theorem Nums.alloc {w : World} {B : Nat} {A : Option Addr} {n : Nat} {xs : List Int} (h : Nums w B A n xs) (hB : B ≤ w.heap.size) (o : Obj) : Nums (w.alloc o) B A n xs :=
  h.keep fun b _ hlt => World.cell?_alloc_lt w o _ (by show b < w.heap.size; omega)
theorem Nums.drewN {w : World} {B : Nat} {A : Option Addr} {n : Nat} {xs : List Int} (h : Nums w B A n xs) (k : Nat) : Nums (w.drewN k) B A n xs := h
theorem Nums.of_own {w : World} {base : Nat} {e : TypeId} {A : Option Addr} {n c : Nat} {xs : List Int} (h : w.ownsRow base e 1 (.slice A n c) n (xs.map (Value.int .i32))) : Nums w w.heap.size A n xs := by
  have hl : xs.length = n := by have := h.1; simpa using this
  refine ⟨hl, fun j hj => ?_⟩
  rcases h.2 with ⟨_, h0⟩ | ⟨g, cap, cur, hv, _, hh, _, _, _, ht⟩
  · omega
  · have hA : A = some ⟨g, 0, none⟩ := by injection hv
    have hg : g < w.heap.size := by
      rcases Nat.lt_or_ge g w.heap.size with hlt | hge
      · exact hlt
      · rw [Array.getElem?_eq_none hge] at hh; cases hh
    refine ⟨g, 0, hA, hg, ?_⟩
    have hc : cur[j]? = some (.int .i32 (xs.getD j 0)) := by
      have e1 := congrArg (fun l : List Value => l[j]?) ht
      simp only [Nat.mul_one, List.getElem?_take, if_pos hj, Array.getElem?_toList, List.getElem?_map] at e1
      rw [e1, List.getElem?_eq_getElem (by omega), List.getD_eq_getElem?_getD, List.getElem?_eq_getElem (by omega)]
      rfl
    rw [Nat.zero_add]
    simp [World.cell?, hh, hc]

theorem ret_int {k : IntKind} {a b : Int} (h : a = b) : Ending.returned (.int k a) = .returned (.int k b) := by rw [h]
theorem ret_bool {a b : Bool} (h : a = b) : Ending.returned (.bool a) = .returned (.bool b) := by rw [h]

end Go.Proofs.YtgmgnlgolhjhmaaDoor

namespace Go.Proofs.YtgmgnlgolhjhmaaDoor
open Go.RowKit

theorem Tryd.infoRune : (Tryd.prog.info? 21).map (fun i => (i.zero, i.size, i.bytes)) = some (some (.int .i32 0), 1, 4) := by kernel_rfl

/-- The call that began in w0 has made, so far, the numbers xs, in the slice v. -/
def Out (w0 w : World) (v : Value) (xs : List Int) : Prop :=
  w.ownsRow w0.heap.size 21 1 v xs.length (xs.map (Value.int .i32)) ∧ Below w0.heap.size w0 w

theorem Out.start (w : World) : Out w w (.slice none 0 0) [] := ⟨World.ownsRow_nil _ _ _ _, Below.refl _ _⟩
theorem below_drewN {B : Nat} {a w : World} (h : Below B a w) (n : Nat) : Below B a (w.drewN n) := ⟨h.os, h.tape, h.output, h.size, h.block⟩
theorem Out.drewN {w0 w : World} {v : Value} {xs : List Int} (h : Out w0 w v xs) (n : Nat) : Out w0 (w.drewN n) v xs := ⟨h.1, below_drewN h.2 n⟩
theorem owns_below {w w' : World} {base : Nat} {e : TypeId} {size : Nat} {v : Value} {n : Nat} {xs : List Value} (h : w.ownsRow base e size v n xs) (hb : Below w.heap.size w w') : w'.ownsRow base e size v n xs := by
  refine ⟨h.1, ?_⟩
  rcases h.2 with hn | ⟨g, cap, cur, rfl, hbase, hg, rest⟩
  · exact .inl hn
  · refine .inr ⟨g, cap, cur, rfl, hbase, ?_, rest⟩
    have hlt : g < w.heap.size := by
      rcases Nat.lt_or_ge g w.heap.size with hlt | hge
      · exact hlt
      · rw [Array.getElem?_eq_none hge] at hg; cases hg
    exact (hb.block g hlt).trans hg
theorem Out.below {w0 w w' : World} {v : Value} {xs : List Int} (h : Out w0 w v xs) (hb : Below w.heap.size w w') : Out w0 w' v xs :=
  ⟨owns_below h.1 hb, h.2.trans (hb.mono h.2.size)⟩
theorem Out.alloc {w0 w : World} {v : Value} {xs : List Int} (h : Out w0 w v xs) (o : Obj) : Out w0 (w.alloc o) v xs :=
  h.below ((Below.refl _ _).alloc (Nat.le_refl _) o)
/-- Its value is a slice that reads as the numbers. -/
theorem Out.slice {w0 w : World} {v : Value} {xs : List Int} (h : Out w0 w v xs) : ∃ A cap, v = .slice A xs.length cap := by
  rcases h.1.2 with ⟨e, e0⟩ | ⟨g, cap, cur, e, _⟩
  · rw [e0]; exact ⟨none, 0, e⟩
  · exact ⟨_, cap, e⟩
theorem Out.nums {w0 w : World} {A : Option Addr} {cap n : Nat} {xs : List Int} (h : Out w0 w (.slice A n cap) xs) : n = xs.length ∧ Nums w w.heap.size A n xs := by
  have e : n = xs.length := by
    obtain ⟨A', c', e⟩ := h.slice
    injection e
  subst e
  exact ⟨rfl, Nums.of_own h.1⟩

/-- append of one number that was just laid. -/
theorem wpList_push {ops : Array Oper} {rest : List Oper} {o : Oper} {a : Act} {Q : Exit → Act → World → Prop} (hgd : o.guard = none) (s x : Operand)
    (ho : o.op = .call { callee := .builtin .append, args := #[s, x], argTypes := #[82, 82] })
    (w0 w : World) (v : Value) (xs : List Int) (z : Int) (hs : a.eval s = v) (hx : a.eval x = .slice (some ⟨w.heap.size, 0, none⟩) 1 1) (hout : Out w0 w v xs) (hl : xs.length ≤ 100000)
    (h : ∀ v' w1, Out w0 w1 v' (xs ++ [z]) → wpList Tryd.prog ops Q rest (a.put o.dst v') w1) : wpList Tryd.prog ops Q (o :: rest) a (w.alloc (.cells #[.int .i32 z] 21)) := by
  obtain ⟨i0, hi, hz0, hz1, hz2⟩ := info_parts Tryd.infoRune
  have hsz := hout.2.size
  refine wpList_append_own _ hgd s x 82 ho w0.heap.size 21 i0 (.int .i32 0) 1 4 Tryd.underlying82 hi hz0 hz1 hz2 rfl (by decide) v xs.length (xs.map (Value.int .i32)) hs (hout.1.alloc _) ⟨w.heap.size, 0, none⟩ 1 1 [.int .i32 z] hx rfl ?_ ?_ ?_ ?_ ?_ ?_
  · intro j u hj
    match j, hj with
    | 0, hj => simp at hj; subst hj; simp [Addr.add]
  · intro u hu; simp at hu; subst hu; rfl
  · unfold maxLen; omega
  · omega
  · simp; omega
  · intro v' w1 hown hgrow _
    refine h v' w1 ⟨by simpa using hown, ?_⟩
    exact (hout.2.alloc hsz _).grown hgrow (by simp; omega) (fun k hk => (hout.1.lt k hk).1)

end Go.Proofs.YtgmgnlgolhjhmaaDoor

namespace Go.Proofs.YtgmgnlgolhjhmaaDoor
open Go.RowKit
namespace Cr

structure C where
  t : ByteArray
  w : Int
  f : Int
  b : Int
  g : Int
deriving DecidableEq

def sp : ByteArray := ⟨#[32]⟩
def half (c : C) : C := ⟨⟨#[]⟩, 0, c.f, c.b, c.g⟩
def blank (b : Int) : C := ⟨sp, 1, -1, b, 0⟩

def C.cells (c : C) : List Value := [.string c.t, .int .i64 c.w, .int .i64 c.f, .int .i64 c.b, .int .i64 c.g]
def flat (l : List C) : List Value := l.flatMap C.cells
theorem C.cells_length (c : C) : c.cells.length = 5 := rfl
theorem flat_nil : flat [] = [] := rfl
theorem flat_cons (c : C) (l : List C) : flat (c :: l) = c.cells ++ flat l := rfl
theorem flat_app (a b : List C) : flat (a ++ b) = flat a ++ flat b := List.flatMap_append
theorem flat_length (l : List C) : (flat l).length = l.length * 5 := by
  induction l with
  | nil => rfl
  | cons c l ih => rw [flat_cons, List.length_append, ih, C.cells_length, List.length_cons]; omega
theorem flat_take (l : List C) : ∀ k, (flat l).take (k * 5) = flat (l.take k) := by
  induction l with
  | nil => intro k; simp [flat]
  | cons c l ih =>
    intro k
    cases k with
    | zero => simp [flat]
    | succ k =>
      rw [flat_cons, List.take_succ_cons, flat_cons, ← ih k, List.take_append, C.cells_length, List.take_of_length_le (by rw [C.cells_length]; omega)]
      congr 2
      omega
theorem flat_drop (l : List C) : ∀ k, (flat l).drop (k * 5) = flat (l.drop k) := by
  induction l with
  | nil => intro k; simp [flat]
  | cons c l ih =>
    intro k
    cases k with
    | zero => simp [flat]
    | succ k =>
      rw [flat_cons, List.drop_succ_cons, ← ih k, List.drop_append, C.cells_length, List.drop_of_length_le (by rw [C.cells_length]; omega), List.nil_append]
      congr 1
      omega
theorem flat_at {l : List C} : ∀ {j i : Nat} {c : C} {v : Value}, l[j]? = some c → c.cells[i]? = some v → (flat l)[5 * j + i]? = some v := by
  induction l with
  | nil => intro j i c v h; simp at h
  | cons a l ih =>
    intro j i c v hj hi
    rw [flat_cons]
    cases j with
    | zero =>
      have e : a = c := by simpa using hj
      subst e
      have hl : i < a.cells.length := by
        rcases Nat.lt_or_ge i a.cells.length with h | h
        · exact h
        · rw [List.getElem?_eq_none h] at hi; cases hi
      rw [Nat.mul_zero, Nat.zero_add, List.getElem?_append_left hl]
      exact hi
    | succ j =>
      rw [List.getElem?_append_right (by rw [C.cells_length]; omega)]
      have e : 5 * (j + 1) + i - a.cells.length = 5 * j + i := by rw [C.cells_length]; omega
      rw [e]
      exact ih (by simpa using hj) hi
theorem flat_of {l : List C} : ∀ {k : Nat} {v : Value}, (flat l)[k]? = some v → ∃ c, l[k / 5]? = some c ∧ c.cells[k % 5]? = some v := by
  induction l with
  | nil => intro k v h; simp [flat] at h
  | cons a l ih =>
    intro k v h
    rw [flat_cons] at h
    rcases Nat.lt_or_ge k 5 with hk | hk
    · rw [List.getElem?_append_left (by rw [C.cells_length]; exact hk)] at h
      have e1 : k / 5 = 0 := by omega
      have e2 : k % 5 = k := by omega
      rw [e1, e2]
      exact ⟨a, rfl, h⟩
    · rw [List.getElem?_append_right (by rw [C.cells_length]; exact hk), C.cells_length] at h
      obtain ⟨c, h1, h2⟩ := ih h
      have e1 : k / 5 = (k - 5) / 5 + 1 := by omega
      have e2 : k % 5 = (k - 5) % 5 := by omega
      rw [e1, e2]
      exact ⟨c, by simpa using h1, h2⟩
theorem flat_one {l : List C} {v : Value} (h : v ∈ flat l) : v.oneCell' = true := by
  obtain ⟨k, hk⟩ := List.getElem?_of_mem h
  obtain ⟨c, _, hv⟩ := flat_of hk
  have hm : v ∈ c.cells := List.mem_of_getElem? hv
  simp only [C.cells, List.mem_cons, List.not_mem_nil, or_false] at hm
  rcases hm with rfl | rfl | rfl | rfl | rfl <;> rfl
theorem flat_set (l : List C) : ∀ (j : Nat) (c : C), j < l.length → flat (l.set j c) = (((((flat l).set (j * 5) (.string c.t)).set (j * 5 + 1) (.int .i64 c.w)).set (j * 5 + 2) (.int .i64 c.f)).set (j * 5 + 3) (.int .i64 c.b)).set (j * 5 + 4) (.int .i64 c.g) := by
  induction l with
  | nil => intro j c h; simp at h
  | cons a l ih =>
    intro j c h
    cases j with
    | zero => simp [flat_cons, C.cells]
    | succ j =>
      have h' : j < l.length := by simpa using h
      rw [List.set_cons_succ, flat_cons, flat_cons, ih j c h']
      have e : ∀ i, (j + 1) * 5 + i = (j * 5 + i) + 5 := fun i => by omega
      have e0 : (j + 1) * 5 = (j * 5) + 5 := by omega
      rw [e0, Nat.add_right_comm (j * 5) 5 1, Nat.add_right_comm (j * 5) 5 2, Nat.add_right_comm (j * 5) 5 3, Nat.add_right_comm (j * 5) 5 4]
      simp [C.cells]
end Cr
open Cr

theorem addr_add (b off q : Nat) : (⟨b, off, none⟩ : Addr).add q = ⟨b, off + q, none⟩ := by
  unfold Addr.add
  split
  · rename_i h0; rw [h0]; rfl
  · rfl

theorem Tryd.infoCell : (Tryd.prog.info? 46).map (fun i => (i.zero, i.size, i.bytes)) = some (some (.agg #[.string ⟨#[]⟩, .int .i64 0, .int .i64 0, .int .i64 0, .int .i64 0]), 5, 48) := by kernel_rfl

/-- The slice of n cells at A reads, in the world w, as the list l. -/
def Rd (w : World) (A : Option Addr) (n : Nat) (l : List C) : Prop :=
  l.length = n ∧ ∀ j c, l[j]? = some c → ∃ b off, A = some ⟨b, off, none⟩ ∧ b < w.heap.size ∧ ∀ i v, c.cells[i]? = some v → w.cell? ⟨b, off + (5 * j + i), none⟩ = some v
theorem Rd.below {w w' : World} {A : Option Addr} {n : Nat} {l : List C} (h : Rd w A n l) (hb : Below w.heap.size w w') : Rd w' A n l := by
  refine ⟨h.1, fun j c hj => ?_⟩
  obtain ⟨b, off, e, hlt, hc⟩ := h.2 j c hj
  exact ⟨b, off, e, Nat.lt_of_lt_of_le hlt hb.size, fun i v hv => (hb.cell (p := ⟨b, off + (5 * j + i), none⟩) hlt).trans (hc i v hv)⟩
theorem Rd.alloc {w : World} {A : Option Addr} {n : Nat} {l : List C} (h : Rd w A n l) (o : Obj) : Rd (w.alloc o) A n l := h.below ((Below.refl _ _).alloc (Nat.le_refl _) o)
theorem Rd.drew {w : World} {A : Option Addr} {n : Nat} {l : List C} (h : Rd w A n l) : Rd w.drew A n l := h.below (Below.refl _ _).drew
theorem Rd.nil (w : World) (A : Option Addr) : Rd w A 0 [] := ⟨rfl, fun j c hj => by simp at hj⟩
theorem Rd.at {w : World} {A : Option Addr} {n : Nat} {l : List C} (h : Rd w A n l) (j : Nat) (c : C) (hj : l[j]? = some c) : ∃ (b off : Nat), A = some ⟨b, off, none⟩ ∧ b < w.heap.size ∧
    w.cell? ⟨b, off + j * 5, none⟩ = some (.string c.t) ∧ w.cell? ⟨b, off + j * 5 + 1, none⟩ = some (.int .i64 c.w) ∧ w.cell? ⟨b, off + j * 5 + 2, none⟩ = some (.int .i64 c.f) ∧ w.cell? ⟨b, off + j * 5 + 3, none⟩ = some (.int .i64 c.b) ∧ w.cell? ⟨b, off + j * 5 + 4, none⟩ = some (.int .i64 c.g) := by
  obtain ⟨b, off, e, hlt, hc⟩ := h.2 j c hj
  have hq : ∀ i v, c.cells[i]? = some v → w.cell? ⟨b, off + j * 5 + i, none⟩ = some v := fun i v hv => by
    rw [Nat.add_assoc, Nat.mul_comm]
    exact hc i v hv
  exact ⟨b, off, e, hlt, hq 0 _ rfl, hq 1 _ rfl, hq 2 _ rfl, hq 3 _ rfl, hq 4 _ rfl⟩
theorem Rd.mk' {w : World} {b off n : Nat} {l : List C} (hn : l.length = n) (hb : 0 < n → b < w.heap.size) (h : ∀ k v, (flat l)[k]? = some v → w.cell? ⟨b, off + k, none⟩ = some v) : Rd w (some ⟨b, off, none⟩) n l := by
  refine ⟨hn, fun j c hj => ⟨b, off, rfl, hb ?_, fun i v hv => h _ _ (flat_at hj hv)⟩⟩
  have : j < l.length := by
    rcases Nat.lt_or_ge j l.length with h' | h'
    · exact h'
    · rw [List.getElem?_eq_none h'] at hj; cases hj
  omega
theorem Rd.cells {w : World} {b off n : Nat} {l : List C} (h : Rd w (some ⟨b, off, none⟩) n l) (k : Nat) (v : Value) (hk : (flat l)[k]? = some v) : w.cell? ⟨b, off + k, none⟩ = some v := by
  obtain ⟨c, hc, hv⟩ := flat_of hk
  obtain ⟨b', off', e, _, hq⟩ := h.2 _ c hc
  injection e with e
  injection e with e1 e2
  subst e1 e2
  have := hq _ v hv
  have e3 : 5 * (k / 5) + k % 5 = k := by omega
  rwa [e3] at this
/-- A part of a slice. -/
theorem Rd.part {w : World} {b off n : Nat} {l : List C} (h : Rd w (some ⟨b, off, none⟩) n l) (i j : Nat) (hij : i ≤ j) (hj : j ≤ n) : Rd w (some ⟨b, off + i * 5, none⟩) (j - i) ((l.drop i).take (j - i)) := by
  have hl := h.1
  refine ⟨by rw [List.length_take, List.length_drop]; omega, fun q c hq => ?_⟩
  have hq' : l[i + q]? = some c := by
    rw [List.getElem?_take] at hq
    split at hq
    · rwa [List.getElem?_drop] at hq
    · cases hq
  obtain ⟨b', off', e, hb, hc⟩ := h.2 _ c hq'
  injection e with e
  injection e with e1 e2
  subst e1 e2
  refine ⟨b, off + i * 5, rfl, hb, fun k v hv => ?_⟩
  have := hc k v hv
  have e3 : off + i * 5 + (5 * q + k) = off + (5 * (i + q) + k) := by omega
  rw [e3]
  exact this

/-- The call that began in w0 owns the slice v, whose cells are l. -/
def Own (w0 w : World) (v : Value) (l : List C) : Prop := w.ownsRow w0.heap.size 46 5 v l.length (flat l) ∧ Below w0.heap.size w0 w
theorem owns_low {w w' : World} {base : Nat} {e : TypeId} {size : Nat} {v : Value} {n : Nat} {xs : List Value} (h : w.ownsRow base e size v n xs) (hb : Below w.heap.size w w') : w'.ownsRow base e size v n xs := by
  refine ⟨h.1, ?_⟩
  rcases h.2 with hn | ⟨g, cap, cur, rfl, hbase, hg, rest⟩
  · exact .inl hn
  · refine .inr ⟨g, cap, cur, rfl, hbase, ?_, rest⟩
    have hlt : g < w.heap.size := by
      rcases Nat.lt_or_ge g w.heap.size with hlt | hge
      · exact hlt
      · rw [Array.getElem?_eq_none hge] at hg; cases hg
    exact (hb.block g hlt).trans hg
theorem Own.below {w0 w w' : World} {v : Value} {l : List C} (h : Own w0 w v l) (hb : Below w.heap.size w w') : Own w0 w' v l := ⟨owns_low h.1 hb, h.2.trans (hb.mono h.2.size)⟩
theorem Own.alloc {w0 w : World} {v : Value} {l : List C} (h : Own w0 w v l) (o : Obj) : Own w0 (w.alloc o) v l := h.below ((Below.refl _ _).alloc (Nat.le_refl _) o)
theorem Own.drew {w0 w : World} {v : Value} {l : List C} (h : Own w0 w v l) : Own w0 w.drew v l := h.below (Below.refl _ _).drew
theorem Own.rebase {w0 w1 w : World} {v : Value} {l : List C} (h : Own w1 w v l) (hb : Below w0.heap.size w0 w1) : Own w0 w v l := by
  refine ⟨⟨h.1.1, ?_⟩, hb.trans (h.2.mono hb.size)⟩
  rcases h.1.2 with hn | ⟨g, cap, cur, rfl, hbase, rest⟩
  · exact .inl hn
  · exact .inr ⟨g, cap, cur, rfl, Nat.le_trans hb.size hbase, rest⟩
theorem Own.start (w : World) : Own w w (.slice none 0 0) [] := ⟨World.ownsRow_nil _ _ _ _, Below.refl _ _⟩
theorem Own.slice {w0 w : World} {v : Value} {l : List C} (h : Own w0 w v l) : (v = .slice none 0 0 ∧ l = []) ∨ ∃ g cap, v = .slice (some ⟨g, 0, none⟩) l.length cap ∧ w0.heap.size ≤ g ∧ g < w.heap.size ∧ l.length ≤ cap := by
  rcases h.1.2 with ⟨e, e0⟩ | ⟨g, cap, cur, e, hb, hg, hc, _⟩
  · exact .inl ⟨e, List.eq_nil_of_length_eq_zero e0⟩
  · exact .inr ⟨g, cap, e, hb, (Array.getElem?_eq_some_iff.1 hg).1, hc⟩
theorem Own.rd {w0 w : World} {A : Option Addr} {n c : Nat} {l : List C} (h : Own w0 w (.slice A n c) l) : Rd w A n l ∧ (A = none → n = 0 ∧ c = 0) := by
  rcases h.slice with ⟨e, rfl⟩ | ⟨g, cap, e, _, hlt, _⟩
  · injection e with e1 e2 e3
    subst e1 e2 e3
    exact ⟨Rd.nil _ _, fun _ => ⟨rfl, rfl⟩⟩
  · injection e with e1 e2 e3
    subst e1 e2 e3
    refine ⟨Rd.mk' rfl (fun _ => hlt) fun k v hv => ?_, fun e => by cases e⟩
    have := h.1.cells (g := g) rfl k v hv
    rwa [addr_add] at this
/-- A cell of a row of its own is stored. -/
theorem Own.put {w0 w : World} {g n cap : Nat} {l : List C} (h : Own w0 w (.slice (some ⟨g, 0, none⟩) n cap) l) (j : Nat) (c : C) (hj : j < l.length) :
    Own w0 (((((w.setCell ⟨g, j * 5, none⟩ (.string c.t)).setCell ⟨g, j * 5 + 1, none⟩ (.int .i64 c.w)).setCell ⟨g, j * 5 + 2, none⟩ (.int .i64 c.f)).setCell ⟨g, j * 5 + 3, none⟩ (.int .i64 c.b)).setCell ⟨g, j * 5 + 4, none⟩ (.int .i64 c.g)) (.slice (some ⟨g, 0, none⟩) n cap) (l.set j c) := by
  obtain ⟨⟨hx, hr⟩, hb⟩ := h
  rcases hr with ⟨e, _⟩ | ⟨g', cap', cur, e, hbase, hg, h1, h2, h3, h4⟩
  · injection e with e; cases e
  · injection e with e1 e2 e3
    injection e1 with e1
    injection e1 with e1
    subst e1 e2 e3
    have hz : j * 5 + 4 < l.length * 5 := by omega
    have s : ∀ (W : World) (cu : Array Value) (k : Nat) (v : Value), W.heap[g]? = some (.cells cu 46) → (W.setCell ⟨g, k, none⟩ v).heap[g]? = some (.cells (cu.setIfInBounds k v) 46) := fun W cu k v hW => heap_setCell_same W g k _ _ _ hW
    have hG := s _ _ (j * 5 + 4) (.int .i64 c.g) (s _ _ (j * 5 + 3) (.int .i64 c.b) (s _ _ (j * 5 + 2) (.int .i64 c.f) (s _ _ (j * 5 + 1) (.int .i64 c.w) (s _ _ (j * 5) (.string c.t) hg))))
    refine ⟨⟨by rw [flat_length, List.length_set], .inr ⟨g, cap, _, by rw [List.length_set], hbase, hG, by rw [List.length_set]; exact h1, h2, by simp [h3], ?_⟩⟩, ?_⟩
    · rw [List.length_set, flat_set l j c hj]
      simp only [Array.toList_setIfInBounds, List.take_set, h4]
    · exact ((((hb.setCell (p := ⟨g, j * 5, none⟩) hbase _).setCell (p := ⟨g, j * 5 + 1, none⟩) hbase _).setCell (p := ⟨g, j * 5 + 2, none⟩) hbase _).setCell (p := ⟨g, j * 5 + 3, none⟩) hbase _).setCell (p := ⟨g, j * 5 + 4, none⟩) hbase _
theorem Own.laid (w : World) (l : List C) (cs : Array Value) (n : Nat) (hn : l.length = n) (hm : n ≤ 1000) (hcs : (flat l).toArray = cs) : Own w (w.alloc (.cells cs 46)) (.slice (some ⟨w.heap.size, 0, none⟩) n n) l := by
  subst hn hcs
  exact ⟨⟨flat_length l, .inr ⟨w.heap.size, l.length, (flat l).toArray, rfl, Nat.le_refl _, heap_alloc_new w _, Nat.le_refl _, by unfold maxLen; omega, by simp [flat_length], by rw [← flat_length]; simp⟩⟩, (Below.refl _ _).alloc (Nat.le_refl _) _⟩

/-- A slice that the call that began in w0 may append to: its own, or one without spare room. -/
def Mine (w0 w : World) (v : Value) (l : List C) : Prop := Below w0.heap.size w0 w ∧ (w.ownsRow w0.heap.size 46 5 v l.length (flat l) ∨ ∃ b off, v = .slice (some ⟨b, off, none⟩) l.length l.length ∧ Rd w (some ⟨b, off, none⟩) l.length l ∧ w0.heap.size ≤ b)
theorem Own.mine {w0 w : World} {v : Value} {l : List C} (h : Own w0 w v l) : Mine w0 w v l := ⟨h.2, .inl h.1⟩
theorem Mine.below {w0 w w' : World} {v : Value} {l : List C} (h : Mine w0 w v l) (hb : Below w.heap.size w w') : Mine w0 w' v l := by
  refine ⟨h.1.trans (hb.mono h.1.size), ?_⟩
  rcases h.2 with h | ⟨b, off, e, h⟩
  · exact .inl (owns_low h hb)
  · exact .inr ⟨b, off, e, h.1.below hb, h.2⟩
theorem Mine.rd {w0 w : World} {A : Option Addr} {n c : Nat} {l : List C} (h : Mine w0 w (.slice A n c) l) : Rd w A n l ∧ (A = none → n = 0 ∧ c = 0) := by
  rcases h.2 with h' | ⟨b, off, e, h'⟩
  · exact Own.rd ⟨h', h.1⟩
  · injection e with e1 e2 e3
    subst e1 e2 e3
    exact ⟨h'.1, fun e => by cases e⟩
theorem Mine.slice {w0 w : World} {v : Value} {l : List C} (h : Mine w0 w v l) : ∃ A c, v = .slice A l.length c := by
  rcases h.2 with h' | ⟨b, off, e, h'⟩
  · rcases Own.slice ⟨h', h.1⟩ with ⟨e, rfl⟩ | ⟨g, cap, e, _⟩
    · exact ⟨none, 0, e⟩
    · exact ⟨_, cap, e⟩
  · exact ⟨_, _, e⟩
theorem Mine.rebase {w0 w1 w : World} {v : Value} {l : List C} (h : Mine w1 w v l) (hb : Below w0.heap.size w0 w1) : Mine w0 w v l := by
  refine ⟨hb.trans (h.1.mono hb.size), ?_⟩
  rcases h.2 with h' | ⟨b, off, e, h1, h2⟩
  · exact .inl (Own.rebase ⟨h', h.1⟩ hb).1
  · exact .inr ⟨b, off, e, h1, Nat.le_trans hb.size h2⟩
/-- A slice that was made since w. -/
def Fr (w : World) (A : Option Addr) : Prop := ∀ p, A = some p → w.heap.size ≤ p.block
theorem Fr.none (w : World) : Fr w none := fun _ e => by cases e
theorem Fr.rebase {w w1 : World} {A : Option Addr} (h : Fr w1 A) (hb : Below w.heap.size w w1) : Fr w A := fun p e => Nat.le_trans hb.size (h p e)
theorem Mine.fr {w0 w : World} {A : Option Addr} {n c : Nat} {l : List C} (h : Mine w0 w (.slice A n c) l) : Fr w0 A := by
  intro p e
  subst e
  rcases h.2 with h' | ⟨b, off, e, h1, h2⟩
  · rcases Own.slice ⟨h', h.1⟩ with ⟨e, _⟩ | ⟨g, cap, e, hg, _⟩
    · injection e with e; cases e
    · injection e with e
      injection e with e
      subst e
      exact hg
  · injection e with e
    injection e with e
    subst e
    exact h2
theorem Own.ge {w0 w : World} {g n c : Nat} {l : List C} (h : Own w0 w (.slice (some ⟨g, 0, Option.none⟩) n c) l) : w0.heap.size ≤ g := h.mine.fr _ rfl

end Go.Proofs.YtgmgnlgolhjhmaaDoor

namespace Go.Proofs.YtgmgnlgolhjhmaaDoor
open Go.RowKit Cr

theorem run_joinC (ty : TypeId) (w0 w : World) (v : Value) (l ys : List C) (A : Option Addr) (m c : Nat) (hv : Mine w0 w v l) (hy : Rd w A m ys) (hnil : A = none → m = 0 ∧ c = 0) (hl : l.length + ys.length ≤ 100000) :
    ∃ (A' : Option Addr) (n' c' : Nat) (w' : World), (Builtin.append_ #[25, 25] ty #[v, .slice A m c]).run Tryd.prog w = .ok (.slice A' n' c') w' ∧ Mine w0 w' (.slice A' n' c') (l ++ ys) := by
  obtain ⟨i0, hi, hz0, hz1, hz2⟩ := info_parts Tryd.infoCell
  have hm : ys.length = m := hy.1
  obtain ⟨hb, hc⟩ := hv
  have hsz := hb.size
  rcases hc with hown | ⟨b, off, rfl, hr, hge⟩
  · cases A with
    | none =>
      obtain ⟨rfl, rfl⟩ := hnil rfl
      have hy0 : ys = [] := List.eq_nil_of_length_eq_zero hm
      subst hy0
      have hrun := run_append_owned_none (P := Tryd.prog) (w := w) w0.heap.size 25 ty 46 i0 5 Tryd.underlying25 hi v l.length (flat l) hown
      have hM : Mine w0 w v (l ++ []) := by rw [List.append_nil]; exact ⟨hb, .inl hown⟩
      obtain ⟨A', c', e⟩ := hM.slice
      subst e
      exact ⟨A', _, c', w, hrun, hM⟩
    | some ad =>
      obtain ⟨ab, ao, asp⟩ := ad
      by_cases hm0 : m = 0
      · subst hm0
        have hy0 : ys = [] := List.eq_nil_of_length_eq_zero hm
        subst hy0
        obtain ⟨v', w', hrun, hown', hgrow, _⟩ := run_append_own (P := Tryd.prog) w w0.heap.size 25 ty 46 i0 _ 5 48 Tryd.underlying25 hi hz0 hz1 hz2 rfl (by decide) v l.length (flat l) hown ⟨ab, ao, asp⟩ 0 c [] rfl (fun j u hj => by simp at hj) (fun u hu => by cases hu) (by unfold maxLen; omega) (by omega) hsz
        have hM : Mine w0 w' v' (l ++ []) := ⟨hb.grown hgrow hsz (fun k hk => (hown.lt k hk).1), .inl (by rw [List.append_nil]; simpa using hown')⟩
        obtain ⟨A', c', e⟩ := hM.slice
        subst e
        exact ⟨A', _, c', w', hrun, hM⟩
      · have hsp : asp = none := by
          have h0 : 0 < ys.length := by omega
          obtain ⟨b', off', e, _⟩ := hy.2 0 ys[0] (List.getElem?_eq_getElem h0)
          exact congrArg Addr.spot (Option.some.inj e)
        subst hsp
        obtain ⟨v', w', hrun, hown', hgrow, _⟩ := run_append_own (P := Tryd.prog) w w0.heap.size 25 ty 46 i0 _ 5 48 Tryd.underlying25 hi hz0 hz1 hz2 rfl (by decide) v l.length (flat l) hown ⟨ab, ao, none⟩ m c (flat ys) (by rw [flat_length, hm]) (fun j u hj => by rw [addr_add]; exact hy.cells j u hj) (fun u hu => flat_one hu) (by unfold maxLen; omega) (by omega) hsz
        have hM : Mine w0 w' v' (l ++ ys) := by
          refine ⟨hb.grown hgrow hsz (fun k hk => (hown.lt k hk).1), .inl ?_⟩
          rw [List.length_append, flat_app, hm]
          exact hown'
        obtain ⟨A', c', e⟩ := hM.slice
        subst e
        exact ⟨A', _, c', w', hrun, hM⟩
  · by_cases hm0 : m = 0
    · subst hm0
      have hy0 : ys = [] := List.eq_nil_of_length_eq_zero hm
      subst hy0
      refine ⟨some ⟨b, off, none⟩, l.length, l.length, w, ?_, ?_⟩
      · cases A <;> simp [Builtin.append_, run_underlying Tryd.underlying25, sizeOf, typeInfo, hi, Builtin.lenOf, Builtin.firstCells, storeCells, loadCells, loadCellsFrom]
      · rw [List.append_nil]
        exact ⟨hb, .inr ⟨b, off, rfl, hr, hge⟩⟩
    · cases A with
      | none => exact absurd (hnil rfl).1 hm0
      | some ad =>
        obtain ⟨ab, ao, asp⟩ := ad
        have hsp : asp = none := by
          have h0 : 0 < ys.length := by omega
          obtain ⟨b', off', e, _⟩ := hy.2 0 ys[0] (List.getElem?_eq_getElem h0)
          exact congrArg Addr.spot (Option.some.inj e)
        subst hsp
        obtain ⟨v', w', hrun, hown', hgrow⟩ := run_append_arg_grows (P := Tryd.prog) w 25 ty 46 i0 _ 5 48 Tryd.underlying25 hi hz0 hz1 hz2 rfl (by decide) ⟨b, off, none⟩ l.length l.length (flat l) (flat_length l) (fun j u hj => by rw [addr_add]; exact hr.cells j u hj) ⟨ab, ao, none⟩ m c (flat ys) (by rw [flat_length, hm]) (fun j u hj => by rw [addr_add]; exact hy.cells j u hj) (by omega) (by unfold maxLen; omega) (by omega)
        have hM : Mine w0 w' v' (l ++ ys) := by
          have hB : Below w.heap.size w w' := (Below.refl _ w).grown hgrow (Nat.le_refl _) (fun k hk => by cases hk)
          have hO : Own w w' v' (l ++ ys) := ⟨by rw [List.length_append, flat_app, hm]; exact hown', hB⟩
          exact (hO.rebase hb).mine
        obtain ⟨A', c', e⟩ := hM.slice
        subst e
        exact ⟨A', _, c', w', hrun, hM⟩
theorem wp_joinC {o : Oper} {a : Act} {K : Act → World → Prop} {Q : Exit → Act → World → Prop} (s x : Operand)
    (ho : o.op = .call { callee := .builtin .append, args := #[s, x], argTypes := #[25, 25] })
    (w0 w : World) (v : Value) (l ys : List C) (A : Option Addr) (m c : Nat) (hs : a.eval s = v) (hx : a.eval x = .slice A m c) (hv : Mine w0 w v l) (hy : Rd w A m ys) (hnil : A = none → m = 0 ∧ c = 0) (hl : l.length + ys.length ≤ 100000)
    (h : ∀ (A' : Option Addr) (n' c' : Nat) w', Aside (Mine w0 w' (.slice A' n' c') (l ++ ys)) → K (a.put o.dst (.slice A' n' c')) w') : Oper.wp Tryd.prog o a w K Q := by
  obtain ⟨A', n', c', w', hrun, hO⟩ := run_joinC o.type w0 w v l ys A m c hv hy hnil hl
  unfold Oper.wp
  simp [execOp, ho, resolve, invoke, builtin, hs, hx, hrun, Result.andThen]
  exact h A' n' c' w' hO
theorem wpList_joinC {ops : Array Oper} {rest : List Oper} {o : Oper} {a : Act} {Q : Exit → Act → World → Prop} (hgd : o.guard = none) (s x : Operand)
    (ho : o.op = .call { callee := .builtin .append, args := #[s, x], argTypes := #[25, 25] })
    (w0 w : World) (v : Value) (l ys : List C) (A : Option Addr) (m c : Nat) (hs : a.eval s = v) (hx : a.eval x = .slice A m c) (hv : Mine w0 w v l) (hy : Rd w A m ys) (hnil : A = none → m = 0 ∧ c = 0) (hl : l.length + ys.length ≤ 100000)
    (h : ∀ (A' : Option Addr) (n' c' : Nat) w', Aside (Mine w0 w' (.slice A' n' c') (l ++ ys)) → wpList Tryd.prog ops Q rest (a.put o.dst (.slice A' n' c')) w') : wpList Tryd.prog ops Q (o :: rest) a w :=
  wpList_plain hgd fun _ hK => wp_joinC s x ho w0 w v l ys A m c hs hx hv hy hnil hl fun A' n' c' w' hO => hK _ _ (h A' n' c' w' hO)
/-- The same at a step of a region that draws its order. -/
theorem step_joinC {ops : Array Oper} {o : Oper} {a : Act} {K : Act → World → Prop} {Q : Exit → Act → World → Prop} {E : Prop} (hgd : o.guard = none) (s x : Operand)
    (ho : o.op = .call { callee := .builtin .append, args := #[s, x], argTypes := #[25, 25] })
    (w0 w : World) (v : Value) (l ys : List C) (A : Option Addr) (m c : Nat) (hs : a.eval s = v) (hx : a.eval x = .slice A m c) (hv : Mine w0 w v l) (hy : Rd w A m ys) (hnil : A = none → m = 0 ∧ c = 0) (hl : l.length + ys.length ≤ 100000)
    (h : ∀ (A' : Option Addr) (n' c' : Nat) w', Aside (Mine w0 w' (.slice A' n' c') (l ++ ys)) → K (a.put o.dst (.slice A' n' c')) w') :
    if Region.wanted o (yielded ops a.tmps) = true then Oper.wp Tryd.prog o a w K Q else E := by
  have hw : Region.wanted o (yielded ops a.tmps) = true := by simp [Region.wanted, hgd]
  rw [if_pos hw]
  exact wp_joinC s x ho w0 w v l ys A m c hs hx hv hy hnil hl h

end Go.Proofs.YtgmgnlgolhjhmaaDoor

namespace Go.Proofs.YtgmgnlgolhjhmaaDoor
namespace Cr

def chk (t : ByteArray) : Nat := Cl.chk t.data.toList
def wd (t : ByteArray) : Int := Cl.widthC t.data.toList
theorem wd_ok {t : ByteArray} (h : chk t = 0) : wd t = 1 ∨ wd t = 2 := by
  have hg := (Cl.good_chk (l := t.data.toList) h)
  obtain ⟨⟨b, ms, he, hb, _, _⟩, _, _⟩ := hg
  have e : wd t = Cw.wd b := by
    have h' : Cl.chk t.data.toList = 0 := h
    unfold wd Cl.widthC Cl.baseOf
    rw [if_pos h', if_pos h', he]
    rfl
  have h1 := (Cl.widthC_bounds t.data.toList).2
  have h2 : 0 < Cw.wd b := of_decide_eq_true hb
  have h3 : wd t ≤ 2 := h1
  rw [e] at h3 ⊢
  omega
theorem sp_ok : chk sp = 0 ∧ wd sp = 1 := by
  have e : sp.data.toList = U8.encL [32] := by decide
  have h := Cl.good_parts (Cl.Good.one Cl.space_base)
  unfold chk wd
  rw [e]
  exact ⟨h.1, by rw [h.2.2.2]; decide⟩

def Narrow (c : C) : Prop := c.w = 1 ∧ chk c.t = 0 ∧ wd c.t = 1
def Wide (c : C) : Prop := c.w = 2 ∧ chk c.t = 0 ∧ wd c.t = 2
theorem blank_narrow (b : Int) : Narrow (blank b) := ⟨rfl, sp_ok.1, sp_ok.2⟩

inductive Pr : List C → Prop
  | nil : Pr []
  | one {c : C} {l : List C} : Narrow c → Pr l → Pr (c :: l)
  | pair {c : C} {l : List C} : Wide c → Pr l → Pr (c :: half c :: l)

theorem Pr.app {a b : List C} (ha : Pr a) (hb : Pr b) : Pr (a ++ b) := by
  induction ha with
  | nil => exact hb
  | one h _ ih => exact .one h ih
  | pair h _ ih => exact .pair h ih
theorem Pr.blanks (n : Nat) (b : Int) : Pr (List.replicate n (blank b)) := by
  induction n with
  | zero => exact .nil
  | succ n ih => exact .one (blank_narrow b) ih

/-- The error of the first cell of a list (0: none). -/
def front (c : C) (r : List C) : Nat :=
  if c.w ≠ 1 ∧ c.w ≠ 2 then 12 else if chk c.t ≠ 0 then 3 else if wd c.t ≠ c.w then 12 else if c.w = 2 ∧ r.head? ≠ some (half c) then 12 else 0
def scan : List C → Nat
  | [] => 0
  | [c] => front c []
  | c :: d :: l => if front c (d :: l) ≠ 0 then front c (d :: l) else if c.w = 2 then scan l else scan (d :: l)
def check (l : List C) : Nat := if l.length < 1 ∨ 132 < l.length then 5 else scan l

theorem front_zero {c : C} {r : List C} (h : front c r = 0) : (c.w = 1 ∧ Narrow c) ∨ (c.w = 2 ∧ Wide c ∧ ∃ l, r = half c :: l) := by
  unfold front at h
  split at h
  · cases h
  · split at h
    · cases h
    · split at h
      · cases h
      · split at h
        · cases h
        · rename_i h1 h2 h3 h4
          have h2' : chk c.t = 0 := by omega
          have h3' : wd c.t = c.w := by omega
          by_cases hw : c.w = 2
          · refine .inr ⟨hw, ⟨hw, h2', by omega⟩, ?_⟩
            cases r with
            | nil => exact absurd ⟨hw, by simp⟩ h4
            | cons d l =>
              have : d = half c := by
                by_cases e : d = half c
                · exact e
                · exact absurd ⟨hw, by simp [e]⟩ h4
              exact ⟨l, by rw [this]⟩
          · have hw1 : c.w = 1 := by omega
            exact .inl ⟨hw1, hw1, h2', by omega⟩
theorem front_narrow {c : C} (r : List C) (h : Narrow c) : front c r = 0 := by
  obtain ⟨h1, h2, h3⟩ := h
  unfold front
  rw [if_neg (by omega), if_neg (by omega), if_neg (by omega), if_neg (by omega)]
theorem front_wide {c : C} (l : List C) (h : Wide c) : front c (half c :: l) = 0 := by
  obtain ⟨h1, h2, h3⟩ := h
  unfold front
  rw [if_neg (by omega), if_neg (by omega), if_neg (by omega), if_neg (by simp)]
theorem scan_step (c : C) (r : List C) : scan (c :: r) = if front c r ≠ 0 then front c r else scan (r.drop (c.w.toNat - 1)) := by
  by_cases hf : front c r = 0
  · rw [if_neg (by omega)]
    rcases front_zero hf with ⟨hw, _⟩ | ⟨hw, _, l, rfl⟩
    · rw [hw]
      cases r with
      | nil => exact hf
      | cons d l =>
        show (if front c (d :: l) ≠ 0 then front c (d :: l) else if c.w = 2 then scan l else scan (d :: l)) = _
        rw [if_neg (by omega), if_neg (by omega)]
        rfl
    · show (if front c (half c :: l) ≠ 0 then front c (half c :: l) else if c.w = 2 then scan l else scan (half c :: l)) = _
      rw [if_neg (by omega), if_pos hw, hw]
      rfl
  · rw [if_pos hf]
    cases r with
    | nil => rfl
    | cons d l =>
      show (if front c (d :: l) ≠ 0 then front c (d :: l) else if c.w = 2 then scan l else scan (d :: l)) = _
      rw [if_pos hf]
theorem scan_of {l : List C} (h : Pr l) : scan l = 0 := by
  induction h with
  | nil => rfl
  | one h _ ih => rw [scan_step, front_narrow _ h, if_neg (by omega), h.1]; exact ih
  | pair h _ ih => rw [scan_step, front_wide _ h, if_neg (by omega), h.1]; exact ih
theorem of_scan : ∀ (n : Nat) (l : List C), l.length ≤ n → scan l = 0 → Pr l := by
  intro n
  induction n with
  | zero => intro l hl _; cases l with
    | nil => exact .nil
    | cons c r => simp at hl
  | succ n ih =>
    intro l hl h
    cases l with
    | nil => exact .nil
    | cons c r =>
      rw [scan_step] at h
      by_cases hf : front c r = 0
      · rw [if_neg (by omega)] at h
        simp at hl
        rcases front_zero hf with ⟨hw, hn⟩ | ⟨hw, hn, m, rfl⟩
        · rw [hw] at h
          exact .one hn (ih r hl h)
        · rw [hw] at h
          refine .pair hn (ih m ?_ h)
          simp at hl; omega
      · rw [if_pos hf] at h
        exact absurd h hf
theorem check_zero {l : List C} : check l = 0 ↔ (1 ≤ l.length ∧ l.length ≤ 132 ∧ Pr l) := by
  unfold check
  by_cases h : l.length < 1 ∨ 132 < l.length
  · rw [if_pos h]
    constructor
    · intro h; cases h
    · rintro ⟨h1, h2, _⟩; omega
  · rw [if_neg h]
    constructor
    · intro h0; exact ⟨by omega, by omega, of_scan _ _ (Nat.le_refl _) h0⟩
    · rintro ⟨_, _, h2⟩; exact scan_of h2
theorem check_good {l : List C} (h : Pr l) (h1 : 1 ≤ l.length) (h2 : l.length ≤ 132) : check l = 0 := check_zero.2 ⟨h1, h2, h⟩

/-- Where a proper row is cut. -/
theorem cut {l : List C} (h : Pr l) : ∀ k, k ≤ l.length → (∃ a b, l = a ++ b ∧ a.length = k ∧ Pr a ∧ Pr b) ∨ (∃ a p b, l = a ++ p :: half p :: b ∧ a.length + 1 = k ∧ Pr a ∧ Wide p ∧ Pr b) := by
  induction h with
  | nil => intro k hk; exact .inl ⟨[], [], rfl, by simp at hk; simp; omega, .nil, .nil⟩
  | @one c l hc hl ih =>
    intro k hk
    cases k with
    | zero => exact .inl ⟨[], c :: l, rfl, rfl, .nil, .one hc hl⟩
    | succ k =>
      simp at hk
      rcases ih k hk with ⟨a, b, rfl, h1, h2, h3⟩ | ⟨a, p, b, rfl, h1, h2, h3, h4⟩
      · exact .inl ⟨c :: a, b, rfl, by simp [h1], .one hc h2, h3⟩
      · exact .inr ⟨c :: a, p, b, rfl, by simp [h1], .one hc h2, h3, h4⟩
  | @pair c l hc hl ih =>
    intro k hk
    match k with
    | 0 => exact .inl ⟨[], c :: half c :: l, rfl, rfl, .nil, .pair hc hl⟩
    | 1 => exact .inr ⟨[], c, l, rfl, rfl, .nil, hc, hl⟩
    | k + 2 =>
      simp at hk
      rcases ih k hk with ⟨a, b, rfl, h1, h2, h3⟩ | ⟨a, p, b, rfl, h1, h2, h3, h4⟩
      · exact .inl ⟨c :: half c :: a, b, rfl, by simp [h1], .pair hc h2, h3⟩
      · exact .inr ⟨c :: half c :: a, p, b, rfl, by simp; omega, .pair hc h2, h3, h4⟩
theorem Pr.head {c : C} {l : List C} (h : Pr (c :: l)) : c.w ≠ 0 := by
  cases h with
  | one h _ => rw [h.1]; decide
  | pair h _ => rw [h.1]; decide
theorem Pr.last {l : List C} (h : Pr l) : ∀ c, l.getLast? = some c → c.w ≠ 2 := by
  induction h with
  | nil => intro c hc; simp at hc
  | @one d l hd hl ih =>
    intro c hc
    cases l with
    | nil => simp at hc; subst hc; rw [hd.1]; decide
    | cons e l => rw [List.getLast?_cons_cons] at hc; exact ih c hc
  | @pair d l hd hl ih =>
    intro c hc
    rw [List.getLast?_cons_cons] at hc
    cases l with
    | nil => simp at hc; subst hc; simp [half]
    | cons e l => rw [List.getLast?_cons_cons] at hc; exact ih c hc

/-- The part left of a cut: the first cell of a pair at its end becomes blank; the part right of a cut: the second cell at its beginning. -/
def cutL (l : List C) : List C := match l.getLast? with
  | some c => if c.w = 2 then l.dropLast ++ [blank c.b] else l
  | none => l
def cutR : List C → List C
  | [] => []
  | c :: r => (if c.w = 0 then blank c.b else c) :: r
theorem cutL_nil : cutL [] = [] := rfl
theorem cutL_snoc (l : List C) (c : C) : cutL (l ++ [c]) = l ++ [if c.w = 2 then blank c.b else c] := by
  unfold cutL
  rw [List.getLast?_concat]
  simp only
  split
  · rw [List.dropLast_concat]
  · rfl
theorem cutL_app (a b : List C) (hb : b ≠ []) : cutL (a ++ b) = a ++ cutL b := by
  rcases List.eq_nil_or_concat b with rfl | ⟨m, c, rfl⟩
  · exact absurd rfl hb
  · rw [List.concat_eq_append, ← List.append_assoc, cutL_snoc, cutL_snoc, List.append_assoc]
theorem cutL_length (l : List C) : (cutL l).length = l.length := by
  rcases List.eq_nil_or_concat l with rfl | ⟨m, c, rfl⟩
  · rfl
  · rw [List.concat_eq_append, cutL_snoc]; simp
theorem cutR_length (l : List C) : (cutR l).length = l.length := by cases l <;> rfl
theorem cutL_proper {l : List C} (h : Pr l) : cutL l = l := by
  rcases List.eq_nil_or_concat l with rfl | ⟨m, c, rfl⟩
  · rfl
  · rw [List.concat_eq_append] at h ⊢
    have := h.last c List.getLast?_concat
    rw [cutL_snoc, if_neg this]
theorem cutR_proper {l : List C} (h : Pr l) : cutR l = l := by
  cases l with
  | nil => rfl
  | cons c r => simp only [cutR]; rw [if_neg h.head]
theorem cutL_Pr {l : List C} (h : Pr l) (k : Nat) : Pr (cutL (l.take k)) := by
  rcases Nat.lt_or_ge l.length k with hk | hk
  · rw [List.take_of_length_le (by omega), cutL_proper h]; exact h
  · rcases cut h k hk with ⟨a, b, rfl, h1, h2, h3⟩ | ⟨a, p, b, rfl, h1, h2, h3, h4⟩
    · rw [← h1, List.take_left' rfl, cutL_proper h2]; exact h2
    · have e : (a ++ p :: half p :: b).take k = a ++ [p] := by
        rw [← h1, List.take_append, List.take_of_length_le (by omega)]
        simp
      rw [e, cutL_snoc, if_pos h3.1]
      exact h2.app (.one (blank_narrow _) .nil)
theorem cutR_Pr {l : List C} (h : Pr l) (k : Nat) : Pr (cutR (l.drop k)) := by
  rcases Nat.lt_or_ge l.length k with hk | hk
  · rw [List.drop_of_length_le (by omega)]; exact .nil
  · rcases cut h k hk with ⟨a, b, rfl, h1, h2, h3⟩ | ⟨a, p, b, rfl, h1, h2, h3, h4⟩
    · rw [← h1, List.drop_left' rfl, cutR_proper h3]; exact h3
    · have e : (a ++ p :: half p :: b).drop k = half p :: b := by
        rw [← h1, List.drop_append]
        simp
      rw [e]
      exact .one (blank_narrow _) h4

/-- Separating a row at a column. -/
def sep (l : List C) (k : Nat) : List C := match l[k]? with
  | some c => if c.w = 0 then (l.set (k - 1) (blank (l.getD (k - 1) c).b)).set k (blank c.b) else l
  | none => l
theorem sep_length (l : List C) (k : Nat) : (sep l k).length = l.length := by
  unfold sep
  split
  · split <;> simp
  · rfl
theorem sep_even {a b : List C} (h : Pr b) : sep (a ++ b) a.length = a ++ b := by
  cases b with
  | nil => unfold sep; simp
  | cons c r => unfold sep; simp [h.head]
theorem sep_mid (a : List C) (p : C) (b : List C) : sep (a ++ p :: half p :: b) (a.length + 1) = a ++ blank p.b :: blank p.b :: b := by
  have e : (a ++ p :: half p :: b)[a.length + 1]? = some (half p) := by
    rw [List.getElem?_append_right (by omega)]
    simp
  unfold sep
  rw [e]
  simp only
  rw [if_pos (show (half p).w = 0 from rfl)]
  have e2 : (a ++ p :: half p :: b).getD (a.length + 1 - 1) (half p) = p := by simp
  rw [e2, Nat.add_sub_cancel, List.set_append_right _ _ (by omega), List.set_append_right _ _ (by omega)]
  simp [half]
theorem sep_cut {l : List C} (h : Pr l) (k : Nat) (hk : k ≤ l.length) : sep l k = cutL (l.take k) ++ cutR (l.drop k) := by
  rcases cut h k hk with ⟨a, b, rfl, h1, h2, h3⟩ | ⟨a, p, b, rfl, h1, h2, h3, h4⟩
  · rw [← h1, sep_even h3, List.take_left' rfl, List.drop_left' rfl, cutL_proper h2, cutR_proper h3]
  · have e : (a ++ p :: half p :: b).take k = a ++ [p] := by
      rw [← h1, List.take_append, List.take_of_length_le (by omega)]
      simp
    have e2 : (a ++ p :: half p :: b).drop k = half p :: b := by
      rw [← h1, List.drop_append]
      simp
    rw [e, e2, cutL_snoc, if_pos h3.1, ← h1, sep_mid]
    simp [cutR, half]
theorem sep_Pr {l : List C} (h : Pr l) (k : Nat) (hk : k ≤ l.length) : Pr (sep l k) := by rw [sep_cut h k hk]; exact (cutL_Pr h k).app (cutR_Pr h k)

theorem cutL_take {l : List C} {i j : Nat} (h : i < j) (hj : j ≤ l.length) : (cutL (l.take j)).take i = l.take i := by
  rcases List.eq_nil_or_concat (l.take j) with e | ⟨m, c, e⟩
  · have := congrArg List.length e
    rw [List.length_take, List.length_nil] at this
    omega
  · rw [List.concat_eq_append] at e
    rw [e, cutL_snoc]
    have hm : m.length + 1 = j := by
      have := congrArg List.length e
      simp at this
      omega
    rw [List.take_append_of_le_length (by omega)]
    have : l.take i = (l.take j).take i := by rw [List.take_take, Nat.min_eq_left (by omega)]
    rw [this, e, List.take_append_of_le_length (by omega)]
theorem cutL_twice (l : List C) : cutL (cutL l) = cutL l := by
  rcases List.eq_nil_or_concat l with rfl | ⟨m, c, rfl⟩
  · rfl
  · rw [List.concat_eq_append, cutL_snoc, cutL_snoc]
    by_cases h : c.w = 2
    · rw [if_pos h, if_neg (by simp [blank])]
    · rw [if_neg h, if_neg h]
theorem cutR_drop (l : List C) {k : Nat} (h : 0 < k) : (cutR l).drop k = l.drop k := by
  cases l with
  | nil => rfl
  | cons c r =>
    cases k with
    | zero => omega
    | succ k => rfl
theorem cutR_twice (l : List C) : cutR (cutR l) = cutR l := by
  cases l with
  | nil => rfl
  | cons c r =>
    simp only [cutR]
    by_cases h : c.w = 0
    · rw [if_pos h, if_neg (by simp [blank])]
    · rw [if_neg h, if_neg h]
/-- Separated at two columns. -/
theorem sep_two {l : List C} (h : Pr l) (i j : Nat) (hi : i ≤ j) (hj : j ≤ l.length) :
    sep (sep l i) j = cutL (l.take i) ++ cutL ((cutR (l.drop i)).take (j - i)) ++ cutR (l.drop j) := by
  have h1 := sep_Pr h i (by omega)
  rw [sep_cut h1 j (by rw [sep_length]; exact hj), sep_cut h i (by omega)]
  have hl : (cutL (l.take i)).length = i := by rw [cutL_length, List.length_take]; omega
  rcases Nat.lt_or_ge i j with hij | hij
  · have e1 : (cutL (l.take i) ++ cutR (l.drop i)).take j = cutL (l.take i) ++ (cutR (l.drop i)).take (j - i) := by
      rw [List.take_append, hl, List.take_of_length_le (by omega)]
    have e2 : (cutL (l.take i) ++ cutR (l.drop i)).drop j = l.drop j := by
      rw [List.drop_append, hl, List.drop_of_length_le (by omega), List.nil_append, cutR_drop _ (by omega), List.drop_drop]
      congr 1; omega
    rw [e1, e2, cutL_app]
    intro e
    have := congrArg List.length e
    rw [List.length_take, cutR_length, List.length_drop] at this
    simp at this
    omega
  · have e : i = j := by omega
    subst e
    rw [Nat.sub_self, List.take_zero, cutL_nil, List.append_nil, List.take_left' hl, List.drop_left' hl, cutL_twice, cutR_twice]
theorem two_left {l : List C} (h : Pr l) (i j : Nat) (hi : i ≤ j) (hj : j ≤ l.length) : (sep (sep l i) j).take i = cutL (l.take i) := by
  rw [sep_two h i j hi hj, List.append_assoc, List.take_left' (by rw [cutL_length, List.length_take]; omega)]
theorem two_right {l : List C} (h : Pr l) (i j : Nat) (hi : i ≤ j) (hj : j ≤ l.length) : (sep (sep l i) j).drop j = cutR (l.drop j) := by
  rw [sep_two h i j hi hj, List.drop_left' (by rw [List.length_append, cutL_length, cutL_length, List.length_take, List.length_take, cutR_length, List.length_drop]; omega)]
theorem two_mid {l : List C} (h : Pr l) (i j : Nat) (hi : i ≤ j) (hj : j ≤ l.length) : ((sep (sep l i) j).drop i).take (j - i) = cutL ((cutR (l.drop i)).take (j - i)) := by
  rw [sep_two h i j hi hj, List.append_assoc, List.drop_left' (by rw [cutL_length, List.length_take]; omega), List.take_left' (by rw [cutL_length, List.length_take, cutR_length, List.length_drop]; omega)]

/-- What the functions return where they return a row. -/
def blanks (n : Nat) (b : Int) : List C := List.replicate n (blank b)
def repl (l : List C) (i j : Nat) (cs : List C) : List C := cutL (l.take i) ++ cs ++ cutR (l.drop j)
def cells (t : ByteArray) (f b g : Int) : List C := if wd t = 2 then [⟨t, 2, f, b, g⟩, ⟨⟨#[]⟩, 0, f, b, g⟩] else [⟨t, wd t, f, b, g⟩]
def ins (l : List C) (col n : Nat) (b : Int) : List C := cutL (l.take col) ++ blanks n b ++ cutL ((cutR (l.drop col)).take (l.length - n - col))
def del (l : List C) (col n : Nat) (b : Int) : List C := cutL (l.take col) ++ cutR (l.drop (col + n)) ++ blanks n b
def fit (l : List C) (w : Nat) : List C := cutL (l.take (min w l.length)) ++ blanks (w - min w l.length) (-1)

theorem blanks_length (n : Nat) (b : Int) : (blanks n b).length = n := List.length_replicate
theorem cells_Pr {t : ByteArray} (h : chk t = 0) (f b g : Int) : Pr (cells t f b g) ∧ ((cells t f b g).length : Int) = wd t := by
  unfold cells
  rcases wd_ok h with hw | hw
  · rw [if_neg (by omega), hw]
    exact ⟨.one ⟨rfl, h, hw⟩ .nil, rfl⟩
  · rw [if_pos hw, hw]
    exact ⟨.pair (c := ⟨t, 2, f, b, g⟩) ⟨rfl, h, hw⟩ .nil, rfl⟩
theorem repl_Pr {l cs : List C} (h : Pr l) (hc : Pr cs) (i j : Nat) : Pr (repl l i j cs) := ((cutL_Pr h i).app hc).app (cutR_Pr h j)
theorem repl_length {l cs : List C} (i j : Nat) (hij : i ≤ j) (hj : j ≤ l.length) (hc : cs.length = j - i) : (repl l i j cs).length = l.length := by
  unfold repl
  rw [List.length_append, List.length_append, cutL_length, cutR_length, hc, List.length_take, List.length_drop]
  omega
theorem mid_Pr {l : List C} (h : Pr l) (i k : Nat) : Pr (cutL ((cutR (l.drop i)).take k)) := cutL_Pr (cutR_Pr h i) k
theorem ins_Pr {l : List C} (h : Pr l) (i n : Nat) (b : Int) : Pr (ins l i n b) := ((cutL_Pr h i).app (Pr.blanks n b)).app (mid_Pr h _ _)
theorem ins_length {l : List C} (i n : Nat) (b : Int) (hi : i + n ≤ l.length) : (ins l i n b).length = l.length := by
  unfold ins
  rw [List.length_append, List.length_append, cutL_length, cutL_length, blanks_length, List.length_take, List.length_take, cutR_length, List.length_drop]
  omega
theorem del_Pr {l : List C} (h : Pr l) (i n : Nat) (b : Int) : Pr (del l i n b) := ((cutL_Pr h i).app (cutR_Pr h _)).app (Pr.blanks n b)
theorem del_length {l : List C} (i n : Nat) (b : Int) (hi : i + n ≤ l.length) : (del l i n b).length = l.length := by
  unfold del
  rw [List.length_append, List.length_append, cutL_length, cutR_length, blanks_length, List.length_take, List.length_drop]
  omega
theorem fit_Pr {l : List C} (h : Pr l) (w : Nat) : Pr (fit l w) := (cutL_Pr h _).app (Pr.blanks _ _)
theorem fit_length (l : List C) (w : Nat) : (fit l w).length = w := by
  unfold fit
  rw [List.length_append, cutL_length, blanks_length, List.length_take]
  omega

end Cr
end Go.Proofs.YtgmgnlgolhjhmaaDoor

namespace Go.Proofs.YtgmgnlgolhjhmaaDoor
open Go.RowKit Cr

set_option maxRecDepth 100000 in
theorem blank_any (b : Int) (w : World) : Calls Tryd.prog 60 #[.int .i64 b] w fun e w' => e = .returned (.agg #[.string ⟨#[32]⟩, .int .i64 1, .int .i64 (-1), .int .i64 b, .int .i64 0]) ∧ Below w.heap.size w w' := by
  go_enter Tryd.func60, Tryd.ntmps60
  go_wp2
  refine bodyPost_ret (results_cell_row rfl _ _ _ 46 _ (0, 0) _ rfl (heap_alloc_new w _) Tryd.underlying46 rfl (by kernel_rfl)) rfl ⟨rfl, (Below.refl _ _).alloc (Nat.le_refl _) _⟩
set_option maxRecDepth 100000 in
theorem half_any (f b g : Int) (w : World) : Calls Tryd.prog 59 #[.agg #[.int .i64 f, .int .i64 b, .int .i64 g]] w fun e w' => e = .returned (.agg #[.string ⟨#[]⟩, .int .i64 0, .int .i64 f, .int .i64 b, .int .i64 g]) ∧ Below w.heap.size w w' := by
  go_enter Tryd.func59, Tryd.ntmps59
  go_wp2
  refine bodyPost_ret (results_cell_row rfl _ _ (w.heap.size + 1) 46 _ (0, 0) _ rfl (by have h := heap_alloc_new (w.alloc (.cells #[.int .i64 f, .int .i64 b, .int .i64 g] 44)) (.cells #[.string ⟨#[]⟩, .int .i64 0, .int .i64 f, .int .i64 b, .int .i64 g] 46); simpa using h) Tryd.underlying46 rfl (by kernel_rfl)) rfl ⟨rfl, ((Below.refl _ _).alloc (Nat.le_refl _) _).alloc (by simp) _⟩
set_option maxRecDepth 100000 in
theorem isLength_any (n : Int) (w : World) : Calls Tryd.prog 48 #[.int .i64 n] w fun e w' => e = .returned (.bool (decide (1 ≤ n ∧ n ≤ 132))) ∧ w = w' := by
  by_cases h : 1 ≤ n
  · by_cases h2 : n ≤ 132
    · rw [decide_eq_true ⟨h, h2⟩]
      go_enter Tryd.func48, Tryd.ntmps48
      go_wp2
      go_ret
      exact ⟨rfl, rfl⟩
    · rw [decide_eq_false (fun e => h2 e.2)]
      go_enter Tryd.func48, Tryd.ntmps48
      go_wp2
      go_ret
      exact ⟨rfl, rfl⟩
  · rw [decide_eq_false (fun e => h e.1)]
    go_enter Tryd.func48, Tryd.ntmps48
    go_wp2
    go_ret
    exact ⟨rfl, rfl⟩

set_option maxHeartbeats 1000000 in
set_option maxRecDepth 100000 in
/-- The product of 1 and a small number. -/
theorem mul_one_any (n : Nat) (hn : n ≤ 1000) (w : World) : Calls Tryd.prog 68 #[.int .u64 1, .int .u64 (n : Int)] w fun e w' => e = .returned (.tuple #[.int .u64 0, .int .u64 (n : Int)]) ∧ w = w' := by
  have h1 : ∀ W : World, Calls Tryd.prog 83 #[.int .u64 1, .int .u64 (n : Int)] W fun e w' => e = .returned (.tuple #[.int .u64 0, .int .u64 (n : Int)]) ∧ W = w' := by
    intro W
    have hA : bits .and .u64 1 4294967295 = 1 := by decide
    have hB : bits .and .u64 (n : Int) 4294967295 = (n : Int) := by
      have h := bits_and_u64_nat n 4294967295 (by omega) (by decide)
      rw [show (4294967295 : Nat) = 2 ^ 32 - 1 from rfl, Nat.and_two_pow_sub_one_eq_mod, Nat.mod_eq_of_lt (by omega)] at h
      exact h
    have hC : (n : Int) / 4294967296 = 0 := by omega
    go_enter Tryd.func83, Tryd.ntmps83
    go_wp2
    go_ret2
    exact ⟨rfl, rfl⟩
  go_enter Tryd.func68, Tryd.ntmps68
  go_wp2_with fail
  refine (h1 _).mono ?_
  rintro e w1 ⟨rfl, rfl⟩
  go_wp2
  go_ret2
  exact ⟨rfl, rfl⟩

end Go.Proofs.YtgmgnlgolhjhmaaDoor

namespace Go.Proofs.YtgmgnlgolhjhmaaDoor
open Go.RowKit Cr

theorem run_copy5 (ty : TypeId) (w : World) (g o dLen dCap : Nat) (a : Addr) (sLen sCap : Nat) (cur : Array Value) (cs : List Value) (m : Nat)
    (hg : w.heap[g]? = some (.cells cur 46 (0, 0))) (hm : min sLen dLen = m) (hn : cs.length = m * 5)
    (hsrc : ∀ j v, cs[j]? = some v → w.cell? (a.add j) = some v) (hfit : o + cs.length ≤ cur.size) (h1 : ∀ v ∈ cs, v.oneCell' = true) :
    (Builtin.copy_ #[25, 25] ty #[.slice (some ⟨g, o, none⟩) dLen dCap, .slice (some a) sLen sCap]).run Tryd.prog w =
      .ok (.int .i64 (m : Int)) (w.setRow g (cur.toList.take o ++ cs ++ cur.toList.drop (o + cs.length)).toArray) := by
  obtain ⟨i0, hi, hz0, hz1, hz2⟩ := info_parts Tryd.infoCell
  have hm' : Nat.min sLen dLen = m := hm
  have hl := run_loadCells_list (P := Tryd.prog) w a cs hsrc
  have hst := run_storeCells_at Tryd.prog g o 46 cs 0 cur w hg (by simpa using hfit) h1
  simp [Builtin.copy_, run_underlying Tryd.underlying25, Builtin.lenOf, Builtin.firstCells, sizeOf, typeInfo, hi, hz1, hm', ← hn, hl, hst, goInt]

/-- A row of n cells whose first k are c. -/
def Part (w : World) (g n k : Nat) (c : C) : Prop := ∃ cur : Array Value, w.heap[g]? = some (.cells cur 46 (0, 0)) ∧ cur.size = n * 5 ∧ cur.toList.take (k * 5) = flat (List.replicate k c)
theorem below_setRow {B : Nat} {a w : World} (h : Below B a w) {g : Nat} (hg : B ≤ g) (cs : Array Value) : Below B a (w.setRow g cs) :=
  ⟨h.os, h.tape, h.output, by simpa [World.setRow] using h.size, fun k hk => (setRow_other w g k cs (by omega)).trans (h.block k hk)⟩
theorem Part.step {w : World} {g n k m : Nat} {c : C} (ty : TypeId) (h : Part w g n k c) (hm : min k (n - k) = m) (hk : k ≤ n) :
    ∃ w', (Builtin.copy_ #[25, 25] ty #[.slice (some ⟨g, k * 5, none⟩) (n - k) (n - k), .slice (some ⟨g, 0, none⟩) k n]).run Tryd.prog w = .ok (.int .i64 (m : Int)) w' ∧ Part w' g n (k + m) c ∧ ∀ B a, B ≤ g → Below B a w → Below B a w' := by
  obtain ⟨cur, hg, hs, ht⟩ := h
  have hmk : m ≤ k ∧ m ≤ n - k := by omega
  have hmul : m * 5 ≤ k * 5 ∧ (k + m) * 5 = k * 5 + m * 5 ∧ (k + m) * 5 ≤ n * 5 := by omega
  have hcs : (cur.toList.take (m * 5)) = flat (List.replicate m c) := by
    have : cur.toList.take (m * 5) = (cur.toList.take (k * 5)).take (m * 5) := by rw [List.take_take, Nat.min_eq_left hmul.1]
    rw [this, ht, flat_take, List.take_replicate, Nat.min_eq_left hmk.1]
  have hrun := run_copy5 ty w g (k * 5) (n - k) (n - k) ⟨g, 0, none⟩ k n cur (flat (List.replicate m c)) m hg hm (by rw [flat_length, List.length_replicate]) (fun j v hj => by
    rw [addr_add, Nat.zero_add]
    rw [← hcs, List.getElem?_take] at hj
    split at hj
    · simp [World.cell?, hg]
      simpa using hj
    · cases hj) (by rw [flat_length, List.length_replicate]; omega) (fun v hv => flat_one hv)
  refine ⟨_, hrun, ⟨_, setRow_heap w g cur _ 46 _ hg, ?_, ?_⟩, fun B a hB hb => below_setRow hb hB _⟩
  · simp [flat_length]
    omega
  · have e1 : (cur.toList.take (k * 5)).length = k * 5 := by rw [List.length_take, Array.length_toList]; omega
    rw [List.toList_toArray, List.take_append_of_le_length (by rw [List.length_append, e1, flat_length, List.length_replicate]; omega), List.take_of_length_le (by rw [List.length_append, e1, flat_length, List.length_replicate]; omega), ht, ← flat_app, List.replicate_append_replicate]
theorem Part.own {w0 w : World} {g n : Nat} {c : C} (h : Part w g n n c) (hb : Below w0.heap.size w0 w) (hg : w0.heap.size ≤ g) (hn : n ≤ 1000) : Own w0 w (.slice (some ⟨g, 0, none⟩) n n) (List.replicate n c) := by
  obtain ⟨cur, h1, h2, h3⟩ := h
  refine ⟨⟨by rw [flat_length], .inr ⟨g, n, cur, by rw [List.length_replicate], hg, h1, by rw [List.length_replicate]; exact Nat.le_refl _, by unfold maxLen; omega, h2, by rw [List.length_replicate]; exact h3⟩⟩, hb⟩
theorem made (w : World) (n : Nat) (hn : n ≤ 1000) (c : C) : ∃ w', (Instr.makeSlice 25 (.int .i64 (n : Int)) (.int .i64 (n : Int))).run Tryd.prog w = .ok (.slice (some ⟨w.heap.size, 0, none⟩) n n) w' ∧ Part w' w.heap.size n 0 c ∧ Below w.heap.size w w' := by
  obtain ⟨i0, hi, hz0, hz1, hz2⟩ := info_parts Tryd.infoCell
  have h := run_makeSlice (P := Tryd.prog) w 25 46 i0 _ Tryd.underlying25 hi hz0 .i64 .i64 (n : Int) (n : Int) (by omega) (Int.le_refl _) (by rw [hz1]; simp; omega) (by rw [hz2]; omega) (by omega)
  refine ⟨_, h, ⟨_, heap_alloc_new w _, ?_, by simp [flat]⟩, (Below.refl _ _).alloc (Nat.le_refl _) _⟩
  rw [size_madeCells, hz1]
  simp

set_option maxHeartbeats 2000000 in
set_option maxRecDepth 100000 in
theorem repeat_any (c : C) (n : Nat) (hn : n ≤ 1000) (b off cap : Nat) (w : World) (hr : Rd w (some ⟨b, off, none⟩) 1 [c]) :
    Calls Tryd.prog 61 #[.slice (some ⟨b, off, none⟩) 1 cap, .int .i64 (n : Int)] w fun e w' => ∃ g, e = .returned (.slice (some ⟨g, 0, none⟩) n n) ∧ Own w w' (.slice (some ⟨g, 0, none⟩) n n) (List.replicate n c) := by
  have hn0 : (0 : Int) ≤ (n : Int) := by omega
  have hn1 : (n : Int) ≤ 1000 := by omega
  have CM := Lib.hid (fun W => mul_one_any n hn W)
  obtain ⟨w1, hmk, hp, hb1⟩ := made w n hn c
  -- the first copy
  obtain ⟨m0, hm0⟩ : ∃ m0, min 1 n = m0 := ⟨_, rfl⟩
  have hm1 : m0 ≤ 1 ∧ m0 ≤ n ∧ (m0 = 0 → n = 0) := by omega
  obtain ⟨w2, hc1, hp2, hb2⟩ : ∃ w2, (Builtin.copy_ #[25, 25] 3 #[.slice (some ⟨w.heap.size, 0, none⟩) n n, .slice (some ⟨b, off, none⟩) 1 cap]).run Tryd.prog w1 = .ok (.int .i64 (m0 : Int)) w2 ∧ Part w2 w.heap.size n m0 c ∧ Below w.heap.size w w2 := by
    obtain ⟨cur, hg, hs, _⟩ := hp
    have hr1 := hr.below hb1
    have hcm : m0 * 5 ≤ n * 5 := by omega
    have hrun := run_copy5 3 w1 w.heap.size 0 n n ⟨b, off, none⟩ 1 cap cur (flat (List.replicate m0 c)) m0 hg hm0 (by rw [flat_length, List.length_replicate]) (fun j v hj => by
      rw [addr_add]
      refine hr1.cells j v ?_
      rcases Nat.lt_or_ge m0 1 with h | h
      · have : m0 = 0 := by omega
        subst this
        simp [flat] at hj
      · have : m0 = 1 := by omega
        subst this
        exact hj) (by rw [flat_length, List.length_replicate]; omega) (fun v hv => flat_one hv)
    refine ⟨_, hrun, ⟨_, setRow_heap w1 w.heap.size cur _ 46 _ hg, ?_, ?_⟩, below_setRow hb1 (Nat.le_refl _) _⟩
    · simp [flat_length]
      omega
    · rw [List.toList_toArray, List.take_zero, List.nil_append, List.take_append_of_le_length (by rw [flat_length, List.length_replicate]; exact Nat.le_refl _), List.take_of_length_le (by rw [flat_length, List.length_replicate]; exact Nat.le_refl _)]
  clear hp hb1 hr hm0
  have HP2 := Lib.hid hp2
  have HB2 := Lib.hid hb2
  have HM := Lib.hid hm1
  clear hp2 hb2 hm1
  go_enter Tryd.func61, Tryd.ntmps61
  go_wp2_with fail
  refine (CM.out _).mono ?_
  rintro e w0 ⟨rfl, rfl⟩
  go_wp2
  go_loopg [8] (n + 1) (fun gk v8 wr => ∃ k : Nat, n < gk + k ∧ k ≤ n ∧ v8 = .int .i64 (k : Int) ∧ Aside (Part wr w.heap.size n k c ∧ Below w.heap.size w wr ∧ (k = 0 → n = 0)))
  case atStart => exact ⟨m0, by have := HM.out; omega, HM.out.2.1, rfl, HP2.out, HB2.out, HM.out.2.2⟩
  case round =>
    obtain ⟨k, hg, hkn, rfl, hA⟩ := hrel
    by_cases hlt : k < n
    · obtain ⟨g', rfl⟩ : ∃ g', gk = g' + 1 := ⟨gk - 1, by omega⟩
      have hz : (k : Int) < (n : Int) := by omega
      have hz0 : (0 : Int) ≤ (k : Int) := by omega
      have hzn : (k : Int) ≤ (n : Int) := by omega
      obtain ⟨m, hm⟩ : ∃ m, min k (n - k) = m := ⟨_, rfl⟩
      obtain ⟨w3, hc, hp3, hb3⟩ := Part.step (w := wr.drew) 3 hA.out.1 hm hkn
      have HP3 := Lib.hid hp3
      have HB3 := Lib.hid (hb3 w.heap.size w (Nat.le_refl _) hA.out.2.1.drew)
      have hk0 : 0 < k := by
        rcases Nat.eq_zero_or_pos k with h | h
        · have := hA.out.2.2 h; omega
        · exact h
      have hm1 : 1 ≤ m ∧ k + m ≤ n := by omega
      have HM1 := Lib.hid hm1
      have hadd : (k : Int) + (m : Int) ≤ 1000 := by omega
      clear hp3 hb3 hm hm1 hA
      go_wp2
      go_region
      go_wp2
      go_roundg g'
      case measure => omega
      case rel =>
        exact ⟨k + m, by have := HM1.out; omega, HM1.out.2, by go_num, HP3.out, HB3.out, fun e => by omega⟩
    · have hz : ¬ (k : Int) < (n : Int) := by omega
      have hkn' : k = n := by omega
      subst hkn'
      go_wp2
      go_ret
      exact ⟨_, rfl, hA.out.1.own hA.out.2.1 (Nat.le_refl _) hn⟩

set_option maxHeartbeats 1000000 in
set_option maxRecDepth 100000 in
theorem blanks_any (n : Nat) (hn : n ≤ 1000) (b : Int) (w : World) :
    Calls Tryd.prog 51 #[.int .i64 (n : Int), .int .i64 b] w fun e w' => ∃ g, e = .returned (.slice (some ⟨g, 0, none⟩) n n) ∧ Own w w' (.slice (some ⟨g, 0, none⟩) n n) (List.replicate n (Cr.blank b)) := by
  have CR := Lib.hid (fun W => repeat_any (Cr.blank b) n hn W.heap.size 0 1 (W.alloc (.cells #[.string ⟨#[32]⟩, .int .i64 1, .int .i64 (-1), .int .i64 b, .int .i64 0] 46)) (Own.laid W [Cr.blank b] _ 1 rfl (by decide) rfl).rd.1)
  go_enter Tryd.func51, Tryd.ntmps51
  go_wp2_with fail
  refine (blank_any b _).mono ?_
  rintro e w1 ⟨rfl, b1⟩
  go_wp2_with fail
  refine (CR.out w1).mono ?_
  rintro e w2 ⟨g, rfl, hO⟩
  have HO := Lib.hid (hO.rebase (b1.alloc b1.size _))
  clear hO CR
  go_wp2
  go_ret
  exact ⟨g, rfl, HO.out⟩

end Go.Proofs.YtgmgnlgolhjhmaaDoor

namespace Go.Proofs.YtgmgnlgolhjhmaaDoor
open Go.RowKit Cr

theorem Own.empty (w : World) : Own w (w.alloc (.cells #[] 46)) (.slice (some ⟨w.heap.size, 0, none⟩) 0 0) [] := Own.laid w [] _ 0 rfl (by decide) rfl
theorem run_joinO (ty : TypeId) (w0 w : World) (v : Value) (l ys : List C) (b off m c : Nat) (hv : Own w0 w v l) (hy : Rd w (some ⟨b, off, none⟩) m ys) (hl : l.length + ys.length ≤ 100000) :
    ∃ (v' : Value) (w' : World), (Builtin.append_ #[25, 25] ty #[v, .slice (some ⟨b, off, none⟩) m c]).run Tryd.prog w = .ok v' w' ∧ Own w0 w' v' (l ++ ys) ∧ (v ≠ .slice none 0 0 → v' ≠ .slice none 0 0) := by
  obtain ⟨i0, hi, hz0, hz1, hz2⟩ := info_parts Tryd.infoCell
  have hm : ys.length = m := hy.1
  obtain ⟨hown, hb⟩ := hv
  have hsz := hb.size
  obtain ⟨v', w', hrun, hown', hgrow, hn⟩ := run_append_own (P := Tryd.prog) w w0.heap.size 25 ty 46 i0 _ 5 48 Tryd.underlying25 hi hz0 hz1 hz2 rfl (by decide) v l.length (flat l) hown ⟨b, off, none⟩ m c (flat ys) (by rw [flat_length, hm]) (fun j u hj => by rw [addr_add]; exact hy.cells j u hj) (fun u hu => flat_one hu) (by unfold maxLen; omega) (by omega) hsz
  exact ⟨v', w', hrun, ⟨by rw [List.length_append, flat_app, hm]; exact hown', hb.grown hgrow hsz (fun k hk => (hown.lt k hk).1)⟩, fun h h' => h (hn.1 h').1⟩

theorem wp_joinO {o : Oper} {a : Act} {K : Act → World → Prop} {Q : Exit → Act → World → Prop} (s x : Operand)
    (ho : o.op = .call { callee := .builtin .append, args := #[s, x], argTypes := #[25, 25] })
    (w0 w : World) (v : Value) (l ys : List C) (b off m c : Nat) (hs : a.eval s = v) (hx : a.eval x = .slice (some ⟨b, off, none⟩) m c) (hv : Own w0 w v l) (hy : Rd w (some ⟨b, off, none⟩) m ys) (hl : l.length + ys.length ≤ 100000) (hne : v ≠ .slice none 0 0)
    (h : ∀ (g c' : Nat) w', Aside (Own w0 w' (.slice (some ⟨g, 0, none⟩) (l.length + ys.length) c') (l ++ ys)) → K (a.put o.dst (.slice (some ⟨g, 0, none⟩) (l.length + ys.length) c')) w') : Oper.wp Tryd.prog o a w K Q := by
  obtain ⟨v', w', hrun, hO, hn⟩ := run_joinO o.type w0 w v l ys b off m c hv hy hl
  have hs' : ∃ g c', v' = .slice (some ⟨g, 0, none⟩) (l.length + ys.length) c' := by
    rcases hO.slice with ⟨e, _⟩ | ⟨g, cap, e, _⟩
    · exact absurd e (hn hne)
    · exact ⟨g, cap, by rw [e, List.length_append]⟩
  obtain ⟨g, c', rfl⟩ := hs'
  unfold Oper.wp
  simp [execOp, ho, resolve, invoke, builtin, hs, hx, hrun, Result.andThen]
  exact h g c' w' hO
theorem wpList_joinO {ops : Array Oper} {rest : List Oper} {o : Oper} {a : Act} {Q : Exit → Act → World → Prop} (hgd : o.guard = none) (s x : Operand)
    (ho : o.op = .call { callee := .builtin .append, args := #[s, x], argTypes := #[25, 25] })
    (w0 w : World) (v : Value) (l ys : List C) (b off m c : Nat) (hs : a.eval s = v) (hx : a.eval x = .slice (some ⟨b, off, none⟩) m c) (hv : Own w0 w v l) (hy : Rd w (some ⟨b, off, none⟩) m ys) (hl : l.length + ys.length ≤ 100000) (hne : v ≠ .slice none 0 0)
    (h : ∀ (g c' : Nat) w', Aside (Own w0 w' (.slice (some ⟨g, 0, none⟩) (l.length + ys.length) c') (l ++ ys)) → wpList Tryd.prog ops Q rest (a.put o.dst (.slice (some ⟨g, 0, none⟩) (l.length + ys.length) c')) w') : wpList Tryd.prog ops Q (o :: rest) a w :=
  wpList_plain hgd fun _ hK => wp_joinO s x ho w0 w v l ys b off m c hs hx hv hy hl hne fun g c' w' hO => hK _ _ (h g c' w' hO)

set_option maxHeartbeats 1000000 in
set_option maxRecDepth 100000 in
theorem cloneR_any (b off n c : Nat) (l : List C) (hn : n ≤ 1000) (w : World) (hr : Rd w (some ⟨b, off, none⟩) n l) :
    Calls Tryd.prog 32 #[.slice (some ⟨b, off, none⟩) n c] w fun e w' => ∃ g cap, e = .returned (.slice (some ⟨g, 0, none⟩) n cap) ∧ Own w w' (.slice (some ⟨g, 0, none⟩) n cap) l := by
  have hl : l.length = n := hr.1
  subst hl
  have HO := Lib.hid (Own.empty w)
  have HR := Lib.hid (hr.alloc (.cells #[] 46))
  have hlen : ([] : List C).length + l.length ≤ 100000 := by simp; omega
  have hne : Value.slice (some ⟨w.heap.size, 0, none⟩) 0 0 ≠ .slice none 0 0 := by intro e; cases e
  clear hr
  have q22 : ∀ (w : World) (a : Option Addr) (n c n' c' : Nat), (binOp .eql 25 (.slice a n c) (.slice none n' c')).run Tryd.prog w = .ok (.bool a.isNone) w := fun w a n c n' c' => Lib.run_eql_slice_nil w _ _ a n c n' c' Tryd.underlying25
  go_enter Tryd.func32, Tryd.ntmps32
  go_wp2_with (at_builtin; refine wpList_joinO rfl (.tmp 5) (.tmp 6) rfl w _ _ [] l b off l.length c rfl rfl HO.out HR.out hlen hne ?_; intro g c' w4 hout4; rw [List.nil_append, List.length_nil, Nat.zero_add] at hout4)
  go_ret
  exact ⟨_, _, by simp, hout4.out⟩

end Go.Proofs.YtgmgnlgolhjhmaaDoor
