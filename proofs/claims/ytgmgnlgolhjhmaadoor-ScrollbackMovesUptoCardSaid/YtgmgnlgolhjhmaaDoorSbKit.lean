/-
  What abides the turn of a block that is no cells; the append of a row within a fence; the function that makes the iterator.
-/
import Derived.Test.YtgmgnlgolhjhmaaDoorSbIter
import Derived.Test.YtgmgnlgolhjhmaaDoorSbMath
import Derived.Test.YtgmgnlgolhjhmaaDoorGrCheck
import Derived.Test.YtgmgnlgolhjhmaaDoorGrEnd
import Derived.Test.YtgmgnlgolhjhmaaDoorGrStruct
namespace Go.Proofs.YtgmgnlgolhjhmaaDoor
open Go.RowKit Go.Shelf Cr Gd

theorem In.turn {w w' : World} {row : Option Nat} (hg : w.grownBy w' row) (hr : ∀ r, row = some r → ∃ o : Obj, w.heap[r]? = some o ∧ o.isCells = false) {x : Value} {l : List C} (hi : In w x l) : In w' x l := by
  obtain ⟨A', m, c', e, hr', h1⟩ := hi
  refine ⟨A', m, c', e, ⟨hr'.1, fun j y hj => ?_⟩, h1⟩
  obtain ⟨b, off, e2, hlt, hc⟩ := hr'.2 j y hj
  exact ⟨b, off, e2, Nat.lt_of_lt_of_le hlt hg.size, fun i v hv => cell_kept (hc i v hv) hg hr⟩
theorem GR.turn {w0 w w' : World} {v : Value} {L : List (List C)} (h : GR w0 w v L) {row : Option Nat} (hg : w.grownBy w' row) (hr : ∀ r, row = some r → w0.heap.size ≤ r ∧ ∃ o : Obj, w.heap[r]? = some o ∧ o.isCells = false) : GR w0 w' v L := by
  obtain ⟨hs, ho, hb, hh⟩ := h
  refine ⟨hs, ho.kept hg ?_, hb.grown hg hb.size (fun k e => (hr k e).1), fun j x l hj hl => ⟨(hh j x l hj hl).1.turn hg (fun r e => (hr r e).2), (hh j x l hj hl).2⟩⟩
  rcases ho.2 with ⟨rfl, _⟩ | ⟨g, cap, cur, rfl, _, hgb, _⟩
  · exact .inl rfl
  · refine .inr fun e' => ?_
    obtain ⟨_, o, ho', hc⟩ := hr g (by simpa [Value.ownBlock] using e'.symm)
    rw [hgb] at ho'; cases ho'; cases hc
theorem Kg.turn {w w' : World} {k : Nat} {W H : Int} {A : Option Addr} {n c : Nat} (h : Kg w k W H A n c) {row : Option Nat} (hg : w.grownBy w' row) (hr : ∀ r, row = some r → ∃ o : Obj, w.heap[r]? = some o ∧ o.isCells = false) : Kg w' k W H A n c :=
  (hg.block k h.lt (fun e => by obtain ⟨o, ho, hc⟩ := hr k e.symm; rw [show w.heap[k]? = _ from h] at ho; cases ho; cases hc)).trans h
theorem bx_turn {w w' : World} {B : Nat} {t : TypeId} {v : Value} (h : Boxed w B t v) {row : Option Nat} (hg : w.grownBy w' row) (hr : ∀ r, row = some r → ∃ o : Obj, w.heap[r]? = some o ∧ o.isCells = false) : Boxed w' B t v :=
  h.kept hg (fun e => by obtain ⟨o, ho, hc⟩ := hr B e.symm; rw [show w.heap[B]? = _ from h] at ho; cases ho; cases hc)
theorem bx_below {w w' : World} {B : Nat} {t : TypeId} {v : Value} (h : Boxed w B t v) (hb : Below w.heap.size w w') : Boxed w' B t v := (hb.block B h.lt).trans h
theorem Cap.turn {w w' : World} {p q r k : Nat} {A : Option Addr} {n c o s : Nat} {v h : Int} {A2 : Option Addr} {n2 c2 : Nat} (hc : Cap w p q r k A n c o s v h A2 n2 c2) {row : Option Nat} (hg : w.grownBy w' row) (hr : ∀ r, row = some r → ∃ o : Obj, w.heap[r]? = some o ∧ o.isCells = false) : Cap w' p q r k A n c o s v h A2 n2 c2 :=
  ⟨bx_turn hc.1 hg hr, bx_turn hc.2.1 hg hr, bx_turn hc.2.2.1 hg hr, hc.2.2.2.turn hg hr⟩
/-- The iterator's variables lie as they lay where each of their blocks does. -/
theorem Cap.same {w w' : World} {p q r k : Nat} {A : Option Addr} {n c o s : Nat} {v h : Int} {A2 : Option Addr} {n2 c2 : Nat} (hc : Cap w p q r k A n c o s v h A2 n2 c2) (hb : ∀ j, j = p ∨ j = q ∨ j = r ∨ j = k → w'.heap[j]? = w.heap[j]?) : Cap w' p q r k A n c o s v h A2 n2 c2 :=
  ⟨(hb p (by simp)).trans hc.1, (hb q (by simp)).trans hc.2.1, (hb r (by simp)).trans hc.2.2.1, (hb k (by simp)).trans hc.2.2.2⟩
theorem Cap.below {w w' : World} {p q r k : Nat} {A : Option Addr} {n c o s : Nat} {v h : Int} {A2 : Option Addr} {n2 c2 : Nat} (hc : Cap w p q r k A n c o s v h A2 n2 c2) (hb : Below w.heap.size w w') : Cap w' p q r k A n c o s v h A2 n2 c2 :=
  ⟨bx_below hc.1 hb, bx_below hc.2.1 hb, bx_below hc.2.2.1 hb, hc.2.2.2.below hb⟩
theorem rows_no (t : TypeId) (x : Value) (ht : t ≠ 25) : ∀ cs fr, (Obj.cells #[x] t (0, 0)) ≠ .cells cs 25 fr := by
  intro cs fr e
  injection e with _ e _
  exact ht e
/-- A slice of rows grows: the iterator's variables lie as they lay. -/
theorem Cap.grown {w0 w w' : World} {u : Value} {L : List (List C)} {p q r k : Nat} {A : Option Addr} {n c o s : Nat} {v h : Int} {A2 : Option Addr} {n2 c2 : Nat} (hc : Cap w p q r k A n c o s v h A2 n2 c2) (hG : GR w0 w u L) (hg : w.grownBy w' u.ownBlock) : Cap w' p q r k A n c o s v h A2 n2 c2 :=
  ⟨hc.1.kept hg (hG.ne hc.1 (rows_no _ _ (by decide))), hc.2.1.kept hg (hG.ne hc.2.1 (rows_no _ _ (by decide))), hc.2.2.1.kept hg (hG.ne hc.2.2.1 (rows_no _ _ (by decide))), hc.2.2.2.grown hG hg⟩
/-- A variable in another block is stored into. -/
theorem Cap.other {w : World} {p q r k : Nat} {A : Option Addr} {n c o s : Nat} {v h : Int} {A2 : Option Addr} {n2 c2 : Nat} (hc : Cap w p q r k A n c o s v h A2 n2 c2) {j i : Nat} (h1 : j < p) (h2 : j < q) (h3 : j < r) (h4 : j < k) (x : Value) : Cap (w.setCell ⟨j, i, none⟩ x) p q r k A n c o s v h A2 n2 c2 :=
  hc.same (fun a ha => by
    have hne : a ≠ j := by rcases ha with rfl | rfl | rfl | rfl <;> omega
    exact heap_setCell_other w _ a x hne)

/-- make of no rows, with room for n. -/
theorem GR.room (w : World) (n : Nat) (hn : n ≤ 1000) : ∃ w', (Instr.makeSlice 22 (.int .i64 0) (.int .i64 (n : Int))).run Tryd.prog w = .ok (.slice (some ⟨w.heap.size, 0, none⟩) 0 n) w' ∧ GR w w' (.slice (some ⟨w.heap.size, 0, none⟩) 0 n) [] ∧ w'.heap.size = w.heap.size + 1 := by
  obtain ⟨i0, hi, hz0, hz1, hz2⟩ := info_parts Tryd.infoRow
  have h := run_makeSlice (P := Tryd.prog) w 22 25 i0 _ Tryd.underlying22 hi hz0 .i64 .i64 0 (n : Int) (by omega) (by omega) (by rw [hz1]; simp; omega) (by rw [hz2]; omega) (by omega)
  refine ⟨_, h, ⟨[], ⟨rfl, .inr ⟨w.heap.size, n, _, rfl, Nat.le_refl _, heap_alloc_new w _, Nat.zero_le _, by unfold maxLen; omega, ?_, by simp⟩⟩, (Below.refl _ _).alloc (Nat.le_refl _) _, fun j x l hj hl => by simp at hj⟩, by simp⟩
  rw [size_madeCells, hz1]; simp

set_option maxHeartbeats 1000000 in
set_option maxRecDepth 100000 in
/-- The iterator is made: its variables lie in blocks of their own. -/
theorem visible_any (A : Option Addr) (n c o s : Nat) (W H : Int) (A2 : Option Addr) (n2 c2 : Nat) (back : Int) (w : World) (ho : (n : Int) - back = (o : Int)) (hs : min back H = (s : Int)) (hn : n ≤ 9223372036854775807) :
    Calls Tryd.prog 34 #[.slice A n c, .agg #[.int .i64 W, .int .i64 H, .slice A2 n2 c2], .int .i64 back] w fun e w' => ∃ p q r k, e = .returned (.func (.func 47) #[] #[.pointer (some ⟨p, 0, none⟩), .pointer (some ⟨q, 0, none⟩), .pointer (some ⟨r, 0, none⟩), .pointer (some ⟨k, 0, none⟩)]) ∧
      Cap w' p q r k A n c o s W H A2 n2 c2 ∧ Below w.heap.size w w' ∧ w.heap.size ≤ p ∧ w.heap.size ≤ q ∧ w.heap.size ≤ r ∧ w.heap.size ≤ k := by
  have hoz : (0 : Int) ≤ (o : Int) := by omega
  obtain ⟨V, hV⟩ : ∃ V, (((w.alloc (.cells #[.slice A n c] 22)).alloc (.cells #[.int .i64 W, .int .i64 H, .slice A2 n2 c2] 35)).alloc (.cells #[.int .i64 (o : Int)] 3)).alloc (.cells #[.int .i64 (s : Int)] 3) = V := ⟨_, rfl⟩
  have hall : Cap V w.heap.size (w.heap.size + 1 + 1) (w.heap.size + 1 + 1 + 1) (w.heap.size + 1) A n c o s W H A2 n2 c2 ∧ Below w.heap.size w V := by
    subst hV
    have h1 := Boxed.new w 22 (.slice A n c)
    have s1 : (w.alloc (.cells #[.slice A n c] 22)).heap.size = w.heap.size + 1 := by simp
    have b1 := (Below.refl w.heap.size w).alloc (Nat.le_refl _) (.cells #[.slice A n c] 22)
    generalize w.alloc (.cells #[.slice A n c] 22) = w1 at h1 s1 b1 ⊢
    have h2 := Kg.new w1 W H A2 n2 c2
    have s2 : (w1.alloc (.cells #[.int .i64 W, .int .i64 H, .slice A2 n2 c2] 35)).heap.size = w.heap.size + 1 + 1 := by simp [s1]
    have b2 := (Below.refl w1.heap.size w1).alloc (Nat.le_refl _) (.cells #[.int .i64 W, .int .i64 H, .slice A2 n2 c2] 35)
    rw [s1] at h2
    generalize w1.alloc (.cells #[.int .i64 W, .int .i64 H, .slice A2 n2 c2] 35) = w2 at h2 s2 b2 ⊢
    have h3 := Boxed.new w2 3 (.int .i64 (o : Int))
    have s3 : (w2.alloc (.cells #[.int .i64 (o : Int)] 3)).heap.size = w.heap.size + 1 + 1 + 1 := by simp [s2]
    have b3 := (Below.refl w2.heap.size w2).alloc (Nat.le_refl _) (.cells #[.int .i64 (o : Int)] 3)
    rw [s2] at h3
    generalize w2.alloc (.cells #[.int .i64 (o : Int)] 3) = w3 at h3 s3 b3 ⊢
    have h4 := Boxed.new w3 3 (.int .i64 (s : Int))
    have b4 := (Below.refl w3.heap.size w3).alloc (Nat.le_refl _) (.cells #[.int .i64 (s : Int)] 3)
    rw [s3] at h4
    exact ⟨⟨bx_below (bx_below (bx_below h1 b2) b3) b4, bx_below h3 b4, h4, (h2.below b3).below b4⟩, b1.trans ((b2.trans ((b3.trans (b4.mono b3.size)).mono b2.size)).mono b1.size)⟩
  have HALL := Lib.hid hall
  clear hall
  subst hV
  by_cases hb : back ≤ H
  · have hbs : back = (s : Int) := by omega
    subst hbs
    go_enter Tryd.func34, Tryd.ntmps34
    go_wp2
    go_ret
    exact ⟨_, _, _, _, rfl, HALL.out.1, HALL.out.2, by omega, by omega, by omega, by omega⟩
  · have hbs : H = (s : Int) := by omega
    subst hbs
    go_enter Tryd.func34, Tryd.ntmps34
    go_wp2
    go_ret
    exact ⟨_, _, _, _, rfl, HALL.out.1, HALL.out.2, by omega, by omega, by omega, by omega⟩

theorem keeps_below {w w' : World} (h : Below w.heap.size w w') : KeepsOthers w w' := ⟨h.size, fun j _ hj _ => (h.block j (Array.getElem?_eq_some_iff.1 hj).1).trans hj⟩
/-- A slice of rows grows: whatever is no cells lies as it lay. -/
theorem GR.keeps {w0 w w' : World} {u : Value} {L : List (List C)} (hG : GR w0 w u L) (hg : w.grownBy w' u.ownBlock) : KeepsOthers w w' := by
  obtain ⟨hs, hown, _⟩ := hG
  refine KeepsOthers.of_grownBy hg fun j o ej hj => ?_
  rcases hown.2 with ⟨rfl, _⟩ | ⟨g, cap, cur, rfl, _, hgb, _⟩
  · simp [Value.ownBlock] at ej
  · obtain rfl : g = j := by simpa [Value.ownBlock] using ej
    rw [hgb] at hj; cases hj; rfl

/-- The result's variable is stored into. -/
theorem GR.g3 {w0 w : World} {u : Value} {L : List (List C)} (h : GR w0 w u L) {k : Nat} {W H : Int} {A : Option Addr} {n c : Nat} (hk : Kg w k W H A n c) (hge : w0.heap.size ≤ k) (W' H' : Int) (S : Value) : GR w0 (Go.Proofs.YtgmgnlgolhjhmaaDoor.g3 w k W' H' S) u L :=
  h.cross hk (grid_no _ _ _) hk.noStr (by rw [g3_size]; exact Nat.le_refl _) (fun j _ hj => g3_other w k W' H' S j hj) (below_g3 h.bel hge W' H' S)
/-- A variable's box is stored into. -/
theorem GR.box {w0 w : World} {u : Value} {L : List (List C)} (h : GR w0 w u L) {k : Nat} {t : TypeId} {x : Value} (hk : Boxed w k t x) (ht : t ≠ 25) (hx : ∀ s, x ≠ .string s) (hge : w0.heap.size ≤ k) (S : Value) : GR w0 (w.setCell ⟨k, 0, none⟩ S) u L :=
  h.cross hk (rows_no _ _ ht) (fun i s h0 => by
    rw [cell_of_row w k _ _ _ _ hk] at h0
    match i, h0 with
    | 0, h0 => exact hx s (by simpa using h0)
    | q + 1, h0 => simp at h0) (by simp [World.setCell]) (fun j _ hj => heap_setCell_other w _ j S hj) (h.bel.setCell (p := ⟨k, 0, none⟩) hge S)
theorem Cap.drew {w : World} {p q r k : Nat} {A : Option Addr} {n c o s : Nat} {v h : Int} {A2 : Option Addr} {n2 c2 : Nat} (hc : Cap w p q r k A n c o s v h A2 n2 c2) : Cap w.drew p q r k A n c o s v h A2 n2 c2 := hc.below (Below.refl _ _).drew

end Go.Proofs.YtgmgnlgolhjhmaaDoor
