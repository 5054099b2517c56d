/-
  Modes in memory; what the functions that find a field return.
-/
import Derived.Test.YtgnkbcflkalhjaaDoorMoNums
import Derived.Laws.StructEq
import Derived.Laws.EntriesVeiled
namespace Go.Proofs.YtgnkbcflkalhjaaDoor
open Go.RowKit Mo

/-- The modes lie in block k. -/
def Md (w : World) (k : Nat) (m : M) : Prop := w.heap[k]? = some (.cells #[.bool m.f0, .bool m.f1, .bool m.f2, .bool m.f3, .bool m.f4, .bool m.f5, .bool m.f6, .bool m.f7, .int .u8 m.s0, .int .u8 m.s1, .int .i64 m.sh] 24)
theorem lt_of_block {w : World} {k : Nat} {o : Obj} (h : w.heap[k]? = some o) : k < w.heap.size := by
  rcases Nat.lt_or_ge k w.heap.size with h' | h'
  · exact h'
  · rw [Array.getElem?_eq_none h'] at h; cases h
theorem below_step {w a b : World} (h : Below w.heap.size w a) (h2 : Below a.heap.size a b) : Below w.heap.size w b := h.trans (h2.mono h.size)
theorem below_alloc (w : World) (o : Obj) : Below w.heap.size w (w.alloc o) := (Below.refl _ w).alloc (Nat.le_refl _) o
section
variable {w w' : World} {k : Nat} {m : M}
theorem Md.lt (h : Md w k m) : k < w.heap.size := lt_of_block h
theorem Md.all (h : Md w k m) : w.cell? ⟨k, 0, none⟩ = some (.bool m.f0) ∧ w.cell? ⟨k, 1, none⟩ = some (.bool m.f1) ∧ w.cell? ⟨k, 2, none⟩ = some (.bool m.f2) ∧ w.cell? ⟨k, 3, none⟩ = some (.bool m.f3) ∧ w.cell? ⟨k, 4, none⟩ = some (.bool m.f4) ∧ w.cell? ⟨k, 5, none⟩ = some (.bool m.f5) ∧ w.cell? ⟨k, 6, none⟩ = some (.bool m.f6) ∧ w.cell? ⟨k, 7, none⟩ = some (.bool m.f7) ∧ w.cell? ⟨k, 8, none⟩ = some (.int .u8 m.s0) ∧ w.cell? ⟨k, 9, none⟩ = some (.int .u8 m.s1) ∧ w.cell? ⟨k, 10, none⟩ = some (.int .i64 m.sh) :=
  ⟨cell_of_row w k 0 _ _ _ h, cell_of_row w k 1 _ _ _ h, cell_of_row w k 2 _ _ _ h, cell_of_row w k 3 _ _ _ h, cell_of_row w k 4 _ _ _ h, cell_of_row w k 5 _ _ _ h, cell_of_row w k 6 _ _ _ h, cell_of_row w k 7 _ _ _ h, cell_of_row w k 8 _ _ _ h, cell_of_row w k 9 _ _ _ h, cell_of_row w k 10 _ _ _ h⟩
theorem Md.z (h : Md w k m) (j : Nat) : w.frozen? ⟨k, j, none⟩ = false := frozen_of_row w k j _ _ h
theorem Md.zs (h : Md w k m) : w.frozen? ⟨k, 0, none⟩ = false ∧ w.frozen? ⟨k, 1, none⟩ = false ∧ w.frozen? ⟨k, 2, none⟩ = false ∧ w.frozen? ⟨k, 3, none⟩ = false ∧ w.frozen? ⟨k, 4, none⟩ = false ∧ w.frozen? ⟨k, 5, none⟩ = false ∧ w.frozen? ⟨k, 6, none⟩ = false ∧ w.frozen? ⟨k, 7, none⟩ = false ∧ w.frozen? ⟨k, 8, none⟩ = false ∧ w.frozen? ⟨k, 9, none⟩ = false ∧ w.frozen? ⟨k, 10, none⟩ = false :=
  ⟨h.z 0, h.z 1, h.z 2, h.z 3, h.z 4, h.z 5, h.z 6, h.z 7, h.z 8, h.z 9, h.z 10⟩
theorem Md.below (h : Md w k m) (hb : Below w.heap.size w w') : Md w' k m := (hb.block k h.lt).trans h
theorem Md.laid (w : World) (m : M) : Md (w.alloc (.cells #[.bool m.f0, .bool m.f1, .bool m.f2, .bool m.f3, .bool m.f4, .bool m.f5, .bool m.f6, .bool m.f7, .int .u8 m.s0, .int .u8 m.s1, .int .i64 m.sh] 24)) w.heap.size m := heap_alloc_new w _
theorem Md.put (w : World) (hk : k = w.heap.size) (m : M) : Md (w.alloc (.cells #[.bool m.f0, .bool m.f1, .bool m.f2, .bool m.f3, .bool m.f4, .bool m.f5, .bool m.f6, .bool m.f7, .int .u8 m.s0, .int .u8 m.s1, .int .i64 m.sh] 24)) k m := by rw [hk]; exact Md.laid w m
theorem Md.other (h : Md w k m) {k' o : Nat} (hk : k ≠ k') (v : Value) : Md (w.setCell ⟨k', o, none⟩ v) k m := (heap_setCell_other w ⟨k', o, none⟩ k _ hk).trans h
theorem Md.s (h : Md w k m) (j : Nat) (b : Bool) (hj : j < 8) : Md (w.setCell ⟨k, j, none⟩ (.bool b)) k (m.put j b) := by
  have e := heap_setCell_same w k j _ _ (.bool b) h
  have : j = 0 ∨ j = 1 ∨ j = 2 ∨ j = 3 ∨ j = 4 ∨ j = 5 ∨ j = 6 ∨ j = 7 := by omega
  rcases this with rfl | rfl | rfl | rfl | rfl | rfl | rfl | rfl <;> exact e
theorem Md.s8 (h : Md w k m) (x : Int) : Md (w.setCell ⟨k, 8, none⟩ (.int .u8 x)) k { m with s0 := x } := heap_setCell_same w k 8 _ _ _ h
theorem Md.s9 (h : Md w k m) (x : Int) : Md (w.setCell ⟨k, 9, none⟩ (.int .u8 x)) k { m with s1 := x } := heap_setCell_same w k 9 _ _ _ h
theorem Md.s10 (h : Md w k m) (x : Int) : Md (w.setCell ⟨k, 10, none⟩ (.int .i64 x)) k { m with sh := x } := heap_setCell_same w k 10 _ _ _ h
end
/-- The world behind a store of whole modes. -/
def st11 (w : World) (k : Nat) (m : M) : World := (((((((((((w.setCell ⟨k, 0, none⟩ (.bool m.f0)).setCell ⟨k, 1, none⟩ (.bool m.f1)).setCell ⟨k, 2, none⟩ (.bool m.f2)).setCell ⟨k, 3, none⟩ (.bool m.f3)).setCell ⟨k, 4, none⟩ (.bool m.f4)).setCell ⟨k, 5, none⟩ (.bool m.f5)).setCell ⟨k, 6, none⟩ (.bool m.f6)).setCell ⟨k, 7, none⟩ (.bool m.f7)).setCell ⟨k, 8, none⟩ (.int .u8 m.s0)).setCell ⟨k, 9, none⟩ (.int .u8 m.s1)).setCell ⟨k, 10, none⟩ (.int .i64 m.sh))
theorem Md.store {w : World} {k : Nat} {m : M} (h : Md w k m) (x : M) : Md (st11 w k x) k x := by
  have e0 : (World.heap (w.setCell ⟨k, 0, none⟩ (.bool x.f0)))[k]? = some (.cells #[.bool x.f0, .bool m.f1, .bool m.f2, .bool m.f3, .bool m.f4, .bool m.f5, .bool m.f6, .bool m.f7, .int .u8 m.s0, .int .u8 m.s1, .int .i64 m.sh] 24) := heap_setCell_same _ k 0 _ _ _ h
  have e1 : (World.heap ((w.setCell ⟨k, 0, none⟩ (.bool x.f0)).setCell ⟨k, 1, none⟩ (.bool x.f1)))[k]? = some (.cells #[.bool x.f0, .bool x.f1, .bool m.f2, .bool m.f3, .bool m.f4, .bool m.f5, .bool m.f6, .bool m.f7, .int .u8 m.s0, .int .u8 m.s1, .int .i64 m.sh] 24) := heap_setCell_same _ k 1 _ _ _ e0
  have e2 : (World.heap (((w.setCell ⟨k, 0, none⟩ (.bool x.f0)).setCell ⟨k, 1, none⟩ (.bool x.f1)).setCell ⟨k, 2, none⟩ (.bool x.f2)))[k]? = some (.cells #[.bool x.f0, .bool x.f1, .bool x.f2, .bool m.f3, .bool m.f4, .bool m.f5, .bool m.f6, .bool m.f7, .int .u8 m.s0, .int .u8 m.s1, .int .i64 m.sh] 24) := heap_setCell_same _ k 2 _ _ _ e1
  have e3 : (World.heap ((((w.setCell ⟨k, 0, none⟩ (.bool x.f0)).setCell ⟨k, 1, none⟩ (.bool x.f1)).setCell ⟨k, 2, none⟩ (.bool x.f2)).setCell ⟨k, 3, none⟩ (.bool x.f3)))[k]? = some (.cells #[.bool x.f0, .bool x.f1, .bool x.f2, .bool x.f3, .bool m.f4, .bool m.f5, .bool m.f6, .bool m.f7, .int .u8 m.s0, .int .u8 m.s1, .int .i64 m.sh] 24) := heap_setCell_same _ k 3 _ _ _ e2
  have e4 : (World.heap (((((w.setCell ⟨k, 0, none⟩ (.bool x.f0)).setCell ⟨k, 1, none⟩ (.bool x.f1)).setCell ⟨k, 2, none⟩ (.bool x.f2)).setCell ⟨k, 3, none⟩ (.bool x.f3)).setCell ⟨k, 4, none⟩ (.bool x.f4)))[k]? = some (.cells #[.bool x.f0, .bool x.f1, .bool x.f2, .bool x.f3, .bool x.f4, .bool m.f5, .bool m.f6, .bool m.f7, .int .u8 m.s0, .int .u8 m.s1, .int .i64 m.sh] 24) := heap_setCell_same _ k 4 _ _ _ e3
  have e5 : (World.heap ((((((w.setCell ⟨k, 0, none⟩ (.bool x.f0)).setCell ⟨k, 1, none⟩ (.bool x.f1)).setCell ⟨k, 2, none⟩ (.bool x.f2)).setCell ⟨k, 3, none⟩ (.bool x.f3)).setCell ⟨k, 4, none⟩ (.bool x.f4)).setCell ⟨k, 5, none⟩ (.bool x.f5)))[k]? = some (.cells #[.bool x.f0, .bool x.f1, .bool x.f2, .bool x.f3, .bool x.f4, .bool x.f5, .bool m.f6, .bool m.f7, .int .u8 m.s0, .int .u8 m.s1, .int .i64 m.sh] 24) := heap_setCell_same _ k 5 _ _ _ e4
  have e6 : (World.heap (((((((w.setCell ⟨k, 0, none⟩ (.bool x.f0)).setCell ⟨k, 1, none⟩ (.bool x.f1)).setCell ⟨k, 2, none⟩ (.bool x.f2)).setCell ⟨k, 3, none⟩ (.bool x.f3)).setCell ⟨k, 4, none⟩ (.bool x.f4)).setCell ⟨k, 5, none⟩ (.bool x.f5)).setCell ⟨k, 6, none⟩ (.bool x.f6)))[k]? = some (.cells #[.bool x.f0, .bool x.f1, .bool x.f2, .bool x.f3, .bool x.f4, .bool x.f5, .bool x.f6, .bool m.f7, .int .u8 m.s0, .int .u8 m.s1, .int .i64 m.sh] 24) := heap_setCell_same _ k 6 _ _ _ e5
  have e7 : (World.heap ((((((((w.setCell ⟨k, 0, none⟩ (.bool x.f0)).setCell ⟨k, 1, none⟩ (.bool x.f1)).setCell ⟨k, 2, none⟩ (.bool x.f2)).setCell ⟨k, 3, none⟩ (.bool x.f3)).setCell ⟨k, 4, none⟩ (.bool x.f4)).setCell ⟨k, 5, none⟩ (.bool x.f5)).setCell ⟨k, 6, none⟩ (.bool x.f6)).setCell ⟨k, 7, none⟩ (.bool x.f7)))[k]? = some (.cells #[.bool x.f0, .bool x.f1, .bool x.f2, .bool x.f3, .bool x.f4, .bool x.f5, .bool x.f6, .bool x.f7, .int .u8 m.s0, .int .u8 m.s1, .int .i64 m.sh] 24) := heap_setCell_same _ k 7 _ _ _ e6
  have e8 : (World.heap (((((((((w.setCell ⟨k, 0, none⟩ (.bool x.f0)).setCell ⟨k, 1, none⟩ (.bool x.f1)).setCell ⟨k, 2, none⟩ (.bool x.f2)).setCell ⟨k, 3, none⟩ (.bool x.f3)).setCell ⟨k, 4, none⟩ (.bool x.f4)).setCell ⟨k, 5, none⟩ (.bool x.f5)).setCell ⟨k, 6, none⟩ (.bool x.f6)).setCell ⟨k, 7, none⟩ (.bool x.f7)).setCell ⟨k, 8, none⟩ (.int .u8 x.s0)))[k]? = some (.cells #[.bool x.f0, .bool x.f1, .bool x.f2, .bool x.f3, .bool x.f4, .bool x.f5, .bool x.f6, .bool x.f7, .int .u8 x.s0, .int .u8 m.s1, .int .i64 m.sh] 24) := heap_setCell_same _ k 8 _ _ _ e7
  have e9 : (World.heap ((((((((((w.setCell ⟨k, 0, none⟩ (.bool x.f0)).setCell ⟨k, 1, none⟩ (.bool x.f1)).setCell ⟨k, 2, none⟩ (.bool x.f2)).setCell ⟨k, 3, none⟩ (.bool x.f3)).setCell ⟨k, 4, none⟩ (.bool x.f4)).setCell ⟨k, 5, none⟩ (.bool x.f5)).setCell ⟨k, 6, none⟩ (.bool x.f6)).setCell ⟨k, 7, none⟩ (.bool x.f7)).setCell ⟨k, 8, none⟩ (.int .u8 x.s0)).setCell ⟨k, 9, none⟩ (.int .u8 x.s1)))[k]? = some (.cells #[.bool x.f0, .bool x.f1, .bool x.f2, .bool x.f3, .bool x.f4, .bool x.f5, .bool x.f6, .bool x.f7, .int .u8 x.s0, .int .u8 x.s1, .int .i64 m.sh] 24) := heap_setCell_same _ k 9 _ _ _ e8
  have e10 : (World.heap (((((((((((w.setCell ⟨k, 0, none⟩ (.bool x.f0)).setCell ⟨k, 1, none⟩ (.bool x.f1)).setCell ⟨k, 2, none⟩ (.bool x.f2)).setCell ⟨k, 3, none⟩ (.bool x.f3)).setCell ⟨k, 4, none⟩ (.bool x.f4)).setCell ⟨k, 5, none⟩ (.bool x.f5)).setCell ⟨k, 6, none⟩ (.bool x.f6)).setCell ⟨k, 7, none⟩ (.bool x.f7)).setCell ⟨k, 8, none⟩ (.int .u8 x.s0)).setCell ⟨k, 9, none⟩ (.int .u8 x.s1)).setCell ⟨k, 10, none⟩ (.int .i64 x.sh)))[k]? = some (.cells #[.bool x.f0, .bool x.f1, .bool x.f2, .bool x.f3, .bool x.f4, .bool x.f5, .bool x.f6, .bool x.f7, .int .u8 x.s0, .int .u8 x.s1, .int .i64 x.sh] 24) := heap_setCell_same _ k 10 _ _ _ e9
  exact e10
theorem below_store {B : Nat} {w U : World} (h : Below B w U) {k : Nat} (hk : B ≤ k) (x : M) : Below B w (st11 U k x) :=
  ((((((((((h.setCell (p := ⟨k, 0, none⟩) hk _).setCell (p := ⟨k, 1, none⟩) hk _).setCell (p := ⟨k, 2, none⟩) hk _).setCell (p := ⟨k, 3, none⟩) hk _).setCell (p := ⟨k, 4, none⟩) hk _).setCell (p := ⟨k, 5, none⟩) hk _).setCell (p := ⟨k, 6, none⟩) hk _).setCell (p := ⟨k, 7, none⟩) hk _).setCell (p := ⟨k, 8, none⟩) hk _).setCell (p := ⟨k, 9, none⟩) hk _).setCell (p := ⟨k, 10, none⟩) hk _
theorem res_m {fn : Func} {p : Tmp} (h : fn.results = #[.cell p 24]) (tmps : Array Value) (w : World) (k : Nat) (m : M) (hp : tmps.getD p undef = .pointer (some ⟨k, 0, none⟩)) (hk : Md w k m) :
    (results fn tmps).run Tryd.prog w = .ok (.agg #[.bool m.f0, .bool m.f1, .bool m.f2, .bool m.f3, .bool m.f4, .bool m.f5, .bool m.f6, .bool m.f7, .int .u8 m.s0, .int .u8 m.s1, .int .i64 m.sh]) w :=
  results_cell_row h tmps w k 24 _ (0, 0) _ hp hk Tryd.underlying24 rfl (by kernel_rfl)

/-- The pointer to a flag of the modes in block k; none for 8. -/
def ptr (k j : Nat) : Value := if j < 8 then .pointer (some ⟨k, j, none⟩) else .pointer none

theorem ret_ptr {a b : Value} (h : a = b) : Ending.returned a = .returned b := by rw [h]
set_option maxRecDepth 100000 in
theorem plain_any (k : Nat) (n : Int) (w : World) : Calls Tryd.prog 33 #[.pointer (some ⟨k, 0, none⟩), .int .i64 n] w fun e w' => e = .returned (ptr k (den 0 n)) ∧ w = w' := by
  have key : n = 4 ∨ n = 20 ∨ (n ≠ 4 ∧ n ≠ 20) := by omega
  obtain ⟨v, hv⟩ : ∃ v, ptr k (den 0 n) = v := ⟨_, rfl⟩
  rw [hv]
  have HV := Lib.hid hv
  clear hv
  rcases key with rfl | rfl | ⟨h1, h2⟩
  · go_enter Tryd.func33, Tryd.ntmps33
    go_wp2
    go_ret
    exact ⟨ret_ptr HV.out, rfl⟩
  · go_enter Tryd.func33, Tryd.ntmps33
    go_wp2
    go_ret
    exact ⟨ret_ptr HV.out, rfl⟩
  · have e1 : (n == 4) = false := by simp [h1]
    have e2 : (n == 20) = false := by simp [h2]
    have HN := Lib.hid (And.intro h1 h2)
    clear h1 h2
    go_enter Tryd.func33, Tryd.ntmps33
    go_wp2
    go_ret
    refine ⟨ret_ptr ?_, rfl⟩
    rw [← HV.out, ptr, den, if_pos rfl, if_neg HN.out.1, if_neg HN.out.2]
    rfl

set_option maxRecDepth 100000 in
theorem private_any (k : Nat) (n : Int) (w : World) : Calls Tryd.prog 34 #[.pointer (some ⟨k, 0, none⟩), .int .i64 n] w fun e w' => e = .returned (ptr k (den 63 n)) ∧ w = w' := by
  have key : n = 1 ∨ n = 6 ∨ n = 7 ∨ n = 25 ∨ n = 47 ∨ n = 1047 ∨ n = 1049 ∨ n = 2048 ∨ (n ≠ 1 ∧ n ≠ 6 ∧ n ≠ 7 ∧ n ≠ 25 ∧ n ≠ 47 ∧ n ≠ 1047 ∧ n ≠ 1049 ∧ n ≠ 2048) := by omega
  obtain ⟨v, hv⟩ : ∃ v, ptr k (den 63 n) = v := ⟨_, rfl⟩
  rw [hv]
  have HV := Lib.hid hv
  clear hv
  rcases key with rfl | rfl | rfl | rfl | rfl | rfl | rfl | rfl | ⟨h1, h2, h3, h4, h5, h6, h7, h8⟩
  iterate 8
    · go_enter Tryd.func34, Tryd.ntmps34
      go_wp2
      go_ret
      exact ⟨ret_ptr HV.out, rfl⟩
  · have e1 : (n == 1) = false := by simp [h1]
    have e2 : (n == 6) = false := by simp [h2]
    have e3 : (n == 7) = false := by simp [h3]
    have e4 : (n == 25) = false := by simp [h4]
    have e5 : (n == 47) = false := by simp [h5]
    have e6 : (n == 1047) = false := by simp [h6]
    have e7 : (n == 1049) = false := by simp [h7]
    have e8 : (n == 2048) = false := by simp [h8]
    have HN := Lib.hid (show den 63 n = 8 by simp [den, h1, h2, h3, h4, h5, h6, h7, h8])
    clear h1 h2 h3 h4 h5 h6 h7 h8
    go_enter Tryd.func34, Tryd.ntmps34
    go_wp2
    go_ret
    refine ⟨ret_ptr ?_, rfl⟩
    rw [← HV.out, HN.out]
    rfl

set_option maxRecDepth 100000 in
theorem fields1_any (k kp km : Nat) (p n : Int) (w : World) (hp : w.cell? ⟨kp, 0, none⟩ = some (.int .u8 p)) (hm : w.cell? ⟨km, 0, none⟩ = some (.pointer (some ⟨k, 0, none⟩))) :
    Calls Tryd.prog 32 #[.int .i64 n, .pointer (some ⟨kp, 0, none⟩), .pointer (some ⟨km, 0, none⟩)] w fun e w' => e = .returned (ptr k (den p n)) ∧ w = w' := by
  have C1 := Lib.hid (plain_any k n w)
  have C2 := Lib.hid (private_any k n w)
  have key : p = 0 ∨ p = 63 ∨ (p ≠ 0 ∧ p ≠ 63) := by omega
  rcases key with rfl | rfl | ⟨h1, h2⟩
  · generalize ptr k (den 0 n) = v at C1 ⊢
    go_enter Tryd.func32, Tryd.ntmps32
    go_wp2_with fail
    refine C1.out.mono ?_
    rintro e w' ⟨rfl, rfl⟩
    go_wp2
    go_ret
    exact ⟨rfl, rfl⟩
  · generalize ptr k (den 63 n) = v at C2 ⊢
    go_enter Tryd.func32, Tryd.ntmps32
    go_wp2_with fail
    refine C2.out.mono ?_
    rintro e w' ⟨rfl, rfl⟩
    go_wp2
    go_ret
    exact ⟨rfl, rfl⟩
  · have e1 : (p == 0) = false := by simp [h1]
    have e2 : (p == 63) = false := by simp [h2]
    have HN : ptr k (den p n) = .pointer none := by simp [den, h1, h2, ptr]
    rw [HN]
    clear h1 h2 HN C1 C2
    go_enter Tryd.func32, Tryd.ntmps32
    go_wp2
    go_ret
    exact ⟨rfl, rfl⟩

end Go.Proofs.YtgnkbcflkalhjaaDoor
