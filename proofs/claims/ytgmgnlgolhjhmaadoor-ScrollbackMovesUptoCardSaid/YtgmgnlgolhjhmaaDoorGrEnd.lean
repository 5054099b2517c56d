/-
  How calls that return a grid end; New and Set of grid.
-/
import Derived.Test.YtgmgnlgolhjhmaaDoorGrCheck
namespace Go.Proofs.YtgmgnlgolhjhmaaDoor
open Go.RowKit Go.Shelf Cr Gd

theorem res2 {fn : Func} {p u : Tmp} (h : fn.results = #[.cell p 35, .tmp u]) (tmps : Array Value) (w : World) (k : Nat) (x y z : Value) (hp : tmps.getD p undef = .pointer (some ⟨k, 0, none⟩)) (hk : w.heap[k]? = some (.cells #[x, y, z] 35)) :
    (results fn tmps).run Tryd.prog w = .ok (.tuple #[.agg #[x, y, z], tmps.getD u undef]) w := by
  have hp' : tmps[p]?.getD undef = .pointer (some ⟨k, 0, none⟩) := by simpa using hp
  simp [results, h, hp', asAddr, run_loadVar_row w k 35 35 #[x, y, z] (0, 0) _ hk Tryd.underlying35 rfl (by kernel_rfl)]
theorem res3 {fn : Func} {p u v : Tmp} (h : fn.results = #[.cell p 35, .tmp u, .tmp v]) (tmps : Array Value) (w : World) (k : Nat) (x y z : Value) (hp : tmps.getD p undef = .pointer (some ⟨k, 0, none⟩)) (hk : w.heap[k]? = some (.cells #[x, y, z] 35)) :
    (results fn tmps).run Tryd.prog w = .ok (.tuple #[.agg #[x, y, z], tmps.getD u undef, tmps.getD v undef]) w := by
  have hp' : tmps[p]?.getD undef = .pointer (some ⟨k, 0, none⟩) := by simpa using hp
  simp [results, h, hp', asAddr, run_loadVar_row w k 35 35 #[x, y, z] (0, 0) _ hk Tryd.underlying35 rfl (by kernel_rfl)]

/-- A grid lies in the block k. -/
def Kg (w : World) (k : Nat) (W H : Int) (A : Option Addr) (n c : Nat) : Prop := w.heap[k]? = some (.cells #[.int .i64 W, .int .i64 H, .slice A n c] 35)
theorem Kg.lt {w : World} {k : Nat} {W H : Int} {A : Option Addr} {n c : Nat} (h : Kg w k W H A n c) : k < w.heap.size := (Array.getElem?_eq_some_iff.1 h).1
theorem Kg.below {w w' : World} {k : Nat} {W H : Int} {A : Option Addr} {n c : Nat} (h : Kg w k W H A n c) (hb : Below w.heap.size w w') : Kg w' k W H A n c := (hb.block k h.lt).trans h
theorem Kg.c0 {w : World} {k : Nat} {W H : Int} {A : Option Addr} {n c : Nat} (h : Kg w k W H A n c) : w.cell? ⟨k, 0, none⟩ = some (.int .i64 W) := cell_of_row w k 0 _ _ _ h
theorem Kg.c1 {w : World} {k : Nat} {W H : Int} {A : Option Addr} {n c : Nat} (h : Kg w k W H A n c) : w.cell? ⟨k, 1, none⟩ = some (.int .i64 H) := cell_of_row w k 1 _ _ _ h
theorem Kg.c2 {w : World} {k : Nat} {W H : Int} {A : Option Addr} {n c : Nat} (h : Kg w k W H A n c) : w.cell? ⟨k, 2, none⟩ = some (.slice A n c) := cell_of_row w k 2 _ _ _ h
theorem Kg.z {w : World} {k : Nat} {W H : Int} {A : Option Addr} {n c : Nat} (h : Kg w k W H A n c) (i : Nat) : w.frozen? ⟨k, i, none⟩ = false := frozen_of_row w k i _ _ h
theorem Kg.new (w : World) (W H : Int) (A : Option Addr) (n c : Nat) : Kg (w.alloc (.cells #[.int .i64 W, .int .i64 H, .slice A n c] 35)) w.heap.size W H A n c := heap_alloc_new w _
/-- A grid is stored into the block k. -/
def g3 (w : World) (k : Nat) (W H : Int) (S : Value) : World := ((w.setCell ⟨k, 0, none⟩ (.int .i64 W)).setCell ⟨k, 1, none⟩ (.int .i64 H)).setCell ⟨k, 2, none⟩ S
theorem Kg.put {w : World} {k : Nat} {W H : Int} {A : Option Addr} {n c : Nat} (h : Kg w k W H A n c) (W' H' : Int) (A' : Option Addr) (n' c' : Nat) : Kg (g3 w k W' H' (.slice A' n' c')) k W' H' A' n' c' := by
  have h1 := heap_setCell_same w k 0 _ _ (.int .i64 W') h
  have h2 := heap_setCell_same _ k 1 _ _ (.int .i64 H') h1
  exact heap_setCell_same _ k 2 _ _ (.slice A' n' c') h2
theorem g3_other (w : World) (k : Nat) (W H : Int) (S : Value) (j : Nat) (h : j ≠ k) : (g3 w k W H S).heap[j]? = w.heap[j]? :=
  (heap_setCell_other _ _ j _ h).trans ((heap_setCell_other _ _ j _ h).trans (heap_setCell_other _ _ j _ h))
theorem g3_size (w : World) (k : Nat) (W H : Int) (S : Value) : (g3 w k W H S).heap.size = w.heap.size := by simp [g3, World.setCell]
theorem below_g3 {B : Nat} {a w : World} (h : Below B a w) {k : Nat} (hk : B ≤ k) (W H : Int) (S : Value) : Below B a (g3 w k W H S) :=
  ((h.setCell (p := ⟨k, 0, none⟩) hk _).setCell (p := ⟨k, 1, none⟩) hk _).setCell (p := ⟨k, 2, none⟩) hk _
theorem In.g3 {w : World} {k : Nat} {W H : Int} {A : Option Addr} {n c : Nat} (h : Kg w k W H A n c) {x : Value} {l : List C} (hi : In w x l) (W' H' : Int) (S : Value) : In (g3 w k W' H' S) x l := by
  obtain ⟨A', m, c', e, hr, h1⟩ := hi
  refine ⟨A', m, c', e, ⟨hr.1, fun j y hj => ?_⟩, h1⟩
  obtain ⟨b, off, e2, hlt, hc⟩ := hr.2 j y hj
  have hne : b ≠ k := by
    intro e
    subst e
    have h0 := hc 0 _ rfl
    rw [cell_of_row w b _ _ _ _ h] at h0
    match off + (5 * j + 0), h0 with
    | 0, h0 => simp at h0
    | 1, h0 => simp at h0
    | 2, h0 => simp at h0
    | q + 3, h0 => simp at h0
  exact ⟨b, off, e2, by rw [g3_size]; exact hlt, fun i v hv => (World.cell?_of_block (a := ⟨b, off + (5 * j + i), none⟩) (g3_other w k _ _ _ b hne)).trans (hc i v hv)⟩
theorem RdR.g3 {w : World} {k : Nat} {W H : Int} {A : Option Addr} {n c : Nat} (h : Kg w k W H A n c) {A' : Option Addr} {m : Nat} {L : List (List C)} (hr : RdR w A' m L) (hne : ∀ p, A' = some p → p.block ≠ k) (W' H' : Int) (S : Value) : RdR (g3 w k W' H' S) A' m L := by
  refine ⟨hr.1, fun j l hj => ?_⟩
  obtain ⟨b, off, x, e, hlt, hc, hi, _⟩ := hr.2 j l hj
  exact ⟨b, off, x, e, by rw [g3_size]; exact hlt, (World.cell?_of_block (a := ⟨b, off + j, none⟩) (g3_other w k _ _ _ b (hne _ e))).trans hc, In.g3 h hi _ _ _, trivial⟩

/-- What a slice of rows that a call returns is. -/
def Gv (w w' : World) (A : Option Addr) (n c : Nat) (L : List (List C)) : Prop := RdR w' A n L ∧ ((A = none → n = 0 ∧ c = 0) ∧ n ≤ c) ∧ Fr w A
theorem Gv.nil (w w' : World) : Gv w w' none 0 0 [] := ⟨RdR.nil _ _, ⟨fun _ => ⟨rfl, rfl⟩, Nat.le_refl _⟩, Fr.none _⟩
theorem GR.gv {w0 w : World} {A : Option Addr} {n c : Nat} {L : List (List C)} (h : GR w0 w (.slice A n c) L) : Gv w0 w A n c L := ⟨h.rd.1, ⟨h.rd.2.1, h.rd.2.2.1⟩, h.rd.2.2.2⟩
theorem Gv.rebase {w w1 w' : World} {A : Option Addr} {n c : Nat} {L : List (List C)} (h : Gv w1 w' A n c L) (hb : Below w.heap.size w w1) : Gv w w' A n c L := ⟨h.1, h.2.1, h.2.2.rebase hb⟩
theorem Gv.below {w w1 w' : World} {A : Option Addr} {n c : Nat} {L : List (List C)} (h : Gv w w1 A n c L) (hb : Below w1.heap.size w1 w') : Gv w w' A n c L := ⟨h.1.below hb, h.2⟩
/-- The slice was made behind the block k. -/
theorem Gv.g3 {w1 w2 : World} {k : Nat} {W H : Int} {A : Option Addr} {n c : Nat} (h : Kg w2 k W H A n c) {A' : Option Addr} {m c' : Nat} {L : List (List C)} (hr : Gv w1 w2 A' m c' L) (hk : k < w1.heap.size) (W' H' : Int) (S : Value) : Gv w1 (g3 w2 k W' H' S) A' m c' L :=
  ⟨hr.1.g3 h (fun p e => by have := hr.2.2 p e; omega) _ _ _, hr.2⟩
def Out2 (w : World) (R : Res) (e : Ending) (w' : World) : Prop :=
  ∃ A n c, e = .returned (.tuple #[.agg #[.int .i64 R.W, .int .i64 R.H, .slice A n c], .int .i64 (R.E : Int)]) ∧ Gv w w' A n c R.L ∧ Below w.heap.size w w'
def Out3 (w : World) (R : Res) (e : Ending) (w' : World) : Prop :=
  ∃ A n c A2 n2 c2, e = .returned (.tuple #[.agg #[.int .i64 R.W, .int .i64 R.H, .slice A n c], .slice A2 n2 c2, .int .i64 (R.E : Int)]) ∧ Gv w w' A n c R.L ∧ Gv w w' A2 n2 c2 R.M ∧ Below w.heap.size w w'

set_option maxRecDepth 100000 in
theorem blankRows_any (W b : Int) (w : World) : Calls Tryd.prog 43 #[.int .i64 W, .int .i64 b] w fun e w' => ∃ p q, e = .returned (.func (.func 55) #[] #[.pointer (some ⟨p, 0, none⟩), .pointer (some ⟨q, 0, none⟩)]) ∧ Bl w' p q W b ∧ Below w.heap.size w w' := by
  have h1 := heap_alloc_new w (.cells #[.int .i64 W] 3)
  have h2 := heap_alloc_new (w.alloc (.cells #[.int .i64 W] 3)) (.cells #[.int .i64 b] 3)
  have b1 := (Below.refl w.heap.size w).alloc (Nat.le_refl _) (.cells #[.int .i64 W] 3)
  have b2 := (Below.refl (w.alloc (.cells #[.int .i64 W] 3)).heap.size (w.alloc (.cells #[.int .i64 W] 3))).alloc (Nat.le_refl _) (.cells #[.int .i64 b] 3)
  have hB : Bl ((w.alloc (.cells #[.int .i64 W] 3)).alloc (.cells #[.int .i64 b] 3)) w.heap.size (w.heap.size + 1) W b := by
    refine ⟨by simp; omega, by simp, ?_, ?_⟩
    · exact cell_of_row _ _ 0 _ _ _ ((b2.block _ (by simp)).trans h1)
    · have h3 : ((w.alloc (.cells #[.int .i64 W] 3)).alloc (.cells #[.int .i64 b] 3)).heap[w.heap.size + 1]? = some (.cells #[.int .i64 b] 3) := by
        rw [show w.heap.size + 1 = (w.alloc (.cells #[.int .i64 W] 3)).heap.size by simp]; exact h2
      exact cell_of_row _ _ 0 _ _ _ h3
  have HB := Lib.hid hB
  have HW := Lib.hid (b1.trans (b2.mono b1.size))
  clear h1 h2 b1 b2 hB
  go_enter Tryd.func43, Tryd.ntmps43
  go_wp2
  go_ret
  exact ⟨_, _, rfl, HB.out, HW.out⟩

end Go.Proofs.YtgmgnlgolhjhmaaDoor
