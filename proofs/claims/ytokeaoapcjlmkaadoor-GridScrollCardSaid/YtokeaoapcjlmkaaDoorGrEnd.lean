/-
  How calls that return a grid end; New and Set of grid.
-/
import Derived.Test.YtokeaoapcjlmkaaDoorGrCheck
namespace Go.Proofs.YtokeaoapcjlmkaaDoor
open Go.RowKit Go.Shelf Cr Gd

theorem res2 {fn : Func} {p u : Tmp} (h : fn.results = #[.cell p 24, .tmp u]) (tmps : Array Value) (w : World) (k : Nat) (x y z : Value) (hp : tmps.getD p undef = .pointer (some ⟨k, 0, none⟩)) (hk : w.heap[k]? = some (.cells #[x, y, z] 24)) :
    (results fn tmps).run Tryd.prog w = .ok (.tuple #[.agg #[x, y, z], tmps.getD u undef]) w := by
  have hp' : tmps[p]?.getD undef = .pointer (some ⟨k, 0, none⟩) := by simpa using hp
  simp [results, h, hp', asAddr, run_loadVar_row w k 24 24 #[x, y, z] (0, 0) _ hk Tryd.underlying24 rfl (by kernel_rfl)]
theorem res3 {fn : Func} {p u v : Tmp} (h : fn.results = #[.cell p 24, .tmp u, .tmp v]) (tmps : Array Value) (w : World) (k : Nat) (x y z : Value) (hp : tmps.getD p undef = .pointer (some ⟨k, 0, none⟩)) (hk : w.heap[k]? = some (.cells #[x, y, z] 24)) :
    (results fn tmps).run Tryd.prog w = .ok (.tuple #[.agg #[x, y, z], tmps.getD u undef, tmps.getD v undef]) w := by
  have hp' : tmps[p]?.getD undef = .pointer (some ⟨k, 0, none⟩) := by simpa using hp
  simp [results, h, hp', asAddr, run_loadVar_row w k 24 24 #[x, y, z] (0, 0) _ hk Tryd.underlying24 rfl (by kernel_rfl)]

/-- A grid lies in the block k. -/
def Kg (w : World) (k : Nat) (W H : Int) (A : Option Addr) (n c : Nat) : Prop := w.heap[k]? = some (.cells #[.int .i64 W, .int .i64 H, .slice A n c] 24)
theorem Kg.lt {w : World} {k : Nat} {W H : Int} {A : Option Addr} {n c : Nat} (h : Kg w k W H A n c) : k < w.heap.size := (Array.getElem?_eq_some_iff.1 h).1
theorem Kg.below {w w' : World} {k : Nat} {W H : Int} {A : Option Addr} {n c : Nat} (h : Kg w k W H A n c) (hb : Below w.heap.size w w') : Kg w' k W H A n c := (hb.block k h.lt).trans h
theorem Kg.c0 {w : World} {k : Nat} {W H : Int} {A : Option Addr} {n c : Nat} (h : Kg w k W H A n c) : w.cell? ⟨k, 0, none⟩ = some (.int .i64 W) := cell_of_row w k 0 _ _ _ h
theorem Kg.c1 {w : World} {k : Nat} {W H : Int} {A : Option Addr} {n c : Nat} (h : Kg w k W H A n c) : w.cell? ⟨k, 1, none⟩ = some (.int .i64 H) := cell_of_row w k 1 _ _ _ h
theorem Kg.c2 {w : World} {k : Nat} {W H : Int} {A : Option Addr} {n c : Nat} (h : Kg w k W H A n c) : w.cell? ⟨k, 2, none⟩ = some (.slice A n c) := cell_of_row w k 2 _ _ _ h
theorem Kg.z {w : World} {k : Nat} {W H : Int} {A : Option Addr} {n c : Nat} (h : Kg w k W H A n c) (i : Nat) : w.frozen? ⟨k, i, none⟩ = false := frozen_of_row w k i _ _ h
theorem Kg.new (w : World) (W H : Int) (A : Option Addr) (n c : Nat) : Kg (w.alloc (.cells #[.int .i64 W, .int .i64 H, .slice A n c] 24)) w.heap.size W H A n c := heap_alloc_new w _
/-- A grid is stored into the block k. -/
def g3 (w : World) (k : Nat) (W H : Int) (S : Value) : World := ((w.setCell ⟨k, 0, none⟩ (.int .i64 W)).setCell ⟨k, 1, none⟩ (.int .i64 H)).setCell ⟨k, 2, none⟩ S
theorem Kg.put {w : World} {k : Nat} {W H : Int} {A : Option Addr} {n c : Nat} (h : Kg w k W H A n c) (W' H' : Int) (A' : Option Addr) (n' c' : Nat) : Kg (g3 w k W' H' (.slice A' n' c')) k W' H' A' n' c' := by
  have h1 := heap_setCell_same w k 0 _ _ (.int .i64 W') h
  have h2 := heap_setCell_same _ k 1 _ _ (.int .i64 H') h1
  exact heap_setCell_same _ k 2 _ _ (.slice A' n' c') h2
theorem g3_other (w : World) (k : Nat) (W H : Int) (S : Value) (j : Nat) (h : j ≠ k) : (g3 w k W H S).heap[j]? = w.heap[j]? :=
  (heap_setCell_other _ _ j _ h).trans ((heap_setCell_other _ _ j _ h).trans (heap_setCell_other _ _ j _ h))
theorem g3_size (w : World) (k : Nat) (W H : Int) (S : Value) : (g3 w k W H S).heap.size = w.heap.size := by simp [g3, World.setCell]
theorem below_g3 {B : Nat} {a w : World} (h : Below B a w) {k : Nat} (hk : B ≤ k) (W H : Int) (S : Value) : Below B a (g3 w k W H S) :=
  ((h.setCell (p := ⟨k, 0, none⟩) hk _).setCell (p := ⟨k, 1, none⟩) hk _).setCell (p := ⟨k, 2, none⟩) hk _
theorem In.g3 {w : World} {k : Nat} {W H : Int} {A : Option Addr} {n c : Nat} (h : Kg w k W H A n c) {x : Value} {l : List C} (hi : In w x l) (W' H' : Int) (S : Value) : In (g3 w k W' H' S) x l := by
  obtain ⟨A', m, c', e, hr, h1⟩ := hi
  refine ⟨A', m, c', e, ⟨hr.1, fun j y hj => ?_⟩, h1⟩
  obtain ⟨b, off, e2, hlt, hc⟩ := hr.2 j y hj
  have hne : b ≠ k := by
    intro e
    subst e
    have h0 := hc 0 _ rfl
    rw [cell_of_row w b _ _ _ _ h] at h0
    match off + (5 * j + 0), h0 with
    | 0, h0 => simp at h0
    | 1, h0 => simp at h0
    | 2, h0 => simp at h0
    | q + 3, h0 => simp at h0
  exact ⟨b, off, e2, by rw [g3_size]; exact hlt, fun i v hv => (World.cell?_of_block (a := ⟨b, off + (5 * j + i), none⟩) (g3_other w k _ _ _ b hne)).trans (hc i v hv)⟩
theorem RdR.g3 {w : World} {k : Nat} {W H : Int} {A : Option Addr} {n c : Nat} (h : Kg w k W H A n c) {A' : Option Addr} {m : Nat} {L : List (List C)} (hr : RdR w A' m L) (hne : ∀ p, A' = some p → p.block ≠ k) (W' H' : Int) (S : Value) : RdR (g3 w k W' H' S) A' m L := by
  refine ⟨hr.1, fun j l hj => ?_⟩
  obtain ⟨b, off, x, e, hlt, hc, hi, _⟩ := hr.2 j l hj
  exact ⟨b, off, x, e, by rw [g3_size]; exact hlt, (World.cell?_of_block (a := ⟨b, off + j, none⟩) (g3_other w k _ _ _ b (hne _ e))).trans hc, In.g3 h hi _ _ _, trivial⟩

/-- What a slice of rows that a call returns is. -/
def Gv (w w' : World) (A : Option Addr) (n c : Nat) (L : List (List C)) : Prop := RdR w' A n L ∧ ((A = none → n = 0 ∧ c = 0) ∧ n ≤ c) ∧ Fr w A
theorem Gv.nil (w w' : World) : Gv w w' none 0 0 [] := ⟨RdR.nil _ _, ⟨fun _ => ⟨rfl, rfl⟩, Nat.le_refl _⟩, Fr.none _⟩
theorem GR.gv {w0 w : World} {A : Option Addr} {n c : Nat} {L : List (List C)} (h : GR w0 w (.slice A n c) L) : Gv w0 w A n c L := ⟨h.rd.1, ⟨h.rd.2.1, h.rd.2.2.1⟩, h.rd.2.2.2⟩
theorem Gv.rebase {w w1 w' : World} {A : Option Addr} {n c : Nat} {L : List (List C)} (h : Gv w1 w' A n c L) (hb : Below w.heap.size w w1) : Gv w w' A n c L := ⟨h.1, h.2.1, h.2.2.rebase hb⟩
theorem Gv.below {w w1 w' : World} {A : Option Addr} {n c : Nat} {L : List (List C)} (h : Gv w w1 A n c L) (hb : Below w1.heap.size w1 w') : Gv w w' A n c L := ⟨h.1.below hb, h.2⟩
/-- The slice was made behind the block k. -/
theorem Gv.g3 {w1 w2 : World} {k : Nat} {W H : Int} {A : Option Addr} {n c : Nat} (h : Kg w2 k W H A n c) {A' : Option Addr} {m c' : Nat} {L : List (List C)} (hr : Gv w1 w2 A' m c' L) (hk : k < w1.heap.size) (W' H' : Int) (S : Value) : Gv w1 (g3 w2 k W' H' S) A' m c' L :=
  ⟨hr.1.g3 h (fun p e => by have := hr.2.2 p e; omega) _ _ _, hr.2⟩
def Out2 (w : World) (R : Res) (e : Ending) (w' : World) : Prop :=
  ∃ A n c, e = .returned (.tuple #[.agg #[.int .i64 R.W, .int .i64 R.H, .slice A n c], .int .i64 (R.E : Int)]) ∧ Gv w w' A n c R.L ∧ Below w.heap.size w w'
def Out3 (w : World) (R : Res) (e : Ending) (w' : World) : Prop :=
  ∃ A n c A2 n2 c2, e = .returned (.tuple #[.agg #[.int .i64 R.W, .int .i64 R.H, .slice A n c], .slice A2 n2 c2, .int .i64 (R.E : Int)]) ∧ Gv w w' A n c R.L ∧ Gv w w' A2 n2 c2 R.M ∧ Below w.heap.size w w'

set_option maxRecDepth 100000 in
theorem blankRows_any (W b : Int) (w : World) : Calls Tryd.prog 33 #[.int .i64 W, .int .i64 b] w fun e w' => ∃ p q, e = .returned (.func (.func 47) #[] #[.pointer (some ⟨p, 0, none⟩), .pointer (some ⟨q, 0, none⟩)]) ∧ Bl w' p q W b ∧ Below w.heap.size w w' := by
  have h1 := heap_alloc_new w (.cells #[.int .i64 W] 3)
  have h2 := heap_alloc_new (w.alloc (.cells #[.int .i64 W] 3)) (.cells #[.int .i64 b] 3)
  have b1 := (Below.refl w.heap.size w).alloc (Nat.le_refl _) (.cells #[.int .i64 W] 3)
  have b2 := (Below.refl (w.alloc (.cells #[.int .i64 W] 3)).heap.size (w.alloc (.cells #[.int .i64 W] 3))).alloc (Nat.le_refl _) (.cells #[.int .i64 b] 3)
  have hB : Bl ((w.alloc (.cells #[.int .i64 W] 3)).alloc (.cells #[.int .i64 b] 3)) w.heap.size (w.heap.size + 1) W b := by
    refine ⟨by simp; omega, by simp, ?_, ?_⟩
    · exact cell_of_row _ _ 0 _ _ _ ((b2.block _ (by simp)).trans h1)
    · have h3 : ((w.alloc (.cells #[.int .i64 W] 3)).alloc (.cells #[.int .i64 b] 3)).heap[w.heap.size + 1]? = some (.cells #[.int .i64 b] 3) := by
        rw [show w.heap.size + 1 = (w.alloc (.cells #[.int .i64 W] 3)).heap.size by simp]; exact h2
      exact cell_of_row _ _ 0 _ _ _ h3
  have HB := Lib.hid hB
  have HW := Lib.hid (b1.trans (b2.mono b1.size))
  clear h1 h2 b1 b2 hB
  go_enter Tryd.func33, Tryd.ntmps33
  go_wp2
  go_ret
  exact ⟨_, _, rfl, HB.out, HW.out⟩

set_option maxHeartbeats 2000000 in
set_option maxRecDepth 100000 in
theorem new_any (W H : Int) (w : World) : Calls Tryd.prog 13 #[.int .i64 W, .int .i64 H] w fun e w' => Out2 w (newR W H) e w' := by
  have CI := Lib.hid (fun U => isSize_any W H U)
  have K0 := Lib.hid (Kg.new w 0 0 none 0 0)
  have B0 := Lib.hid ((Below.refl w.heap.size w).alloc (Nat.le_refl _) (.cells #[.int .i64 0, .int .i64 0, .slice none 0 0] 24))
  by_cases h0 : sizeOk W H
  · rw [decide_eq_true h0] at CI
    have e : newR W H = ⟨0, W, H, List.replicate H.toNat (blanks W.toNat (-1)), []⟩ := by unfold newR; rw [if_pos h0]
    rw [e]
    obtain ⟨a1, a2, a3, a4⟩ := h0
    obtain ⟨v, rfl⟩ : ∃ v : Nat, W = (v : Int) := ⟨W.toNat, by omega⟩
    obtain ⟨n, rfl⟩ : ∃ n : Nat, H = (n : Int) := ⟨H.toNat, by omega⟩
    rw [Int.toNat_natCast, Int.toNat_natCast]
    have CB := Lib.hid (fun U => blankRows_any (v : Int) (-1) U)
    have CF := Lib.hid (fun p q U (h : Bl U p q (v : Int) (-1)) => blankFn_any p q v (-1) n (by omega) (by omega) U h)
    have CO := Lib.hid (fun A n c U => gridOf_any (v : Int) A n c U)
    clear e
    go_enter Tryd.func13, Tryd.ntmps13
    go_wp2_with fail
    refine (CI.out _).mono ?_
    rintro e w1 ⟨rfl, rfl⟩
    clear CI
    go_wp2_with fail
    refine (CB.out _).mono ?_
    rintro e w2 ⟨p, q, rfl, hB, b2⟩
    have K2 := Lib.hid (K0.out.below b2)
    have B2 := Lib.hid (B0.out.trans (b2.mono B0.out.size))
    have HB := Lib.hid hB
    have hlt := K2.out.lt
    clear hB b2 CB
    go_wp2_with fail
    refine (CF.out _ _ w2 HB.out).mono ?_
    rintro e w3 ⟨g, rfl, hG⟩
    have K3 := Lib.hid (K2.out.below hG.bel)
    have B3 := Lib.hid (B2.out.trans (hG.bel.mono B2.out.size))
    have G3 := Lib.hid hG
    clear hG CF
    go_wp2_with fail
    refine (CO.out _ _ _ _).mono ?_
    rintro e w4 ⟨rfl, b4⟩
    have K4 := Lib.hid (K3.out.below b4)
    have B4 := Lib.hid (B3.out.trans (b4.mono B3.out.size))
    have G4 := Lib.hid (G3.out.below b4)
    have q0 := K4.out.c0
    have q1 := K4.out.c1
    have q2 := K4.out.c2
    have qf := K4.out.z
    clear b4 CO
    go_wp2
    refine bodyPost_ret (res2 rfl _ _ _ _ _ _ rfl (K4.out.put (v : Int) (n : Int) (some ⟨g, 0, none⟩) n n)) rfl ?_
    exact ⟨_, _, _, rfl, ((G4.out.gv.g3 K4.out hlt _ _ _).rebase B2.out), below_g3 B4.out (Nat.le_refl _) _ _ _⟩
  · rw [decide_eq_false h0] at CI
    have e : newR W H = bad 2 := by unfold newR; rw [if_neg h0]
    rw [e]
    clear e
    go_enter Tryd.func13, Tryd.ntmps13
    go_wp2_with fail
    refine (CI.out _).mono ?_
    rintro e w1 ⟨rfl, rfl⟩
    go_wp2
    refine bodyPost_ret (res2 rfl _ _ _ _ _ _ rfl (Kg.new w 0 0 none 0 0)) rfl ?_
    exact ⟨none, 0, 0, rfl, Gv.nil _ _, B0.out⟩

end Go.Proofs.YtokeaoapcjlmkaaDoor
