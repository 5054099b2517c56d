/-
  make, a store and copy on slices of truth values; what New, Set, Resize and awake return.
-/
import Derived.Test.YtpnfpndhkegngaaTbSmall
namespace Go.Proofs.Ytpnfpndhkegngaa
open Go.RowKit Tb

theorem addr_add (b off j : Nat) : (⟨b, off, none⟩ : Addr).add j = ⟨b, off + j, none⟩ := by unfold Addr.add; split <;> simp_all

/-- make of n truth values. -/
theorem Out.makeB (w : World) (n : Nat) (hn : n ≤ 1000) : ∃ w', (Instr.makeSlice 22 (.int .i64 (n : Int)) (.int .i64 (n : Int))).run Try.prog w = .ok (.slice (some ⟨w.heap.size, 0, none⟩) n n) w' ∧ Out w w' (.slice (some ⟨w.heap.size, 0, none⟩) n n) (List.replicate n false) := by
  obtain ⟨i0, hi, hz0, hz1, hz2⟩ := info_parts Try.infoBool
  have h := run_makeSlice (P := Try.prog) w 22 4 i0 _ Try.underlying22 hi hz0 .i64 .i64 (n : Int) (n : Int) (by omega) (Int.le_refl _) (by rw [hz1]; simp; omega) (by rw [hz2]; omega) (by omega)
  have hm : (madeCells (Value.bool false).cells ((n : Int).toNat * i0.size)).toList = (List.replicate n false).map Value.bool := by
    rw [List.map_replicate, List.eq_replicate_iff]
    refine ⟨by rw [Array.length_toList, size_madeCells, hz1]; simp, fun x hx => ?_⟩
    simp [madeCells, Value.cells, Nat.mod_one] at hx
    exact hx.2.symm
  refine ⟨_, h, ⟨by simp, .inr ⟨w.heap.size, n, _, by rw [List.length_replicate], Nat.le_refl _, heap_alloc_new w _, by rw [List.length_replicate]; exact Nat.le_refl _, by unfold maxLen; omega, ?_, ?_⟩⟩, (Below.refl _ _).alloc (Nat.le_refl _) _⟩
  · rw [size_madeCells, hz1]; simp
  · rw [hm, List.take_of_length_le]
    simp
/-- A truth value is stored. -/
theorem Out.set {w0 w : World} {g n cap : Nat} {xs : List Bool} (h : Out w0 w (.slice (some ⟨g, 0, none⟩) n cap) xs) (j : Nat) (x : Bool) : Out w0 (w.setCell ⟨g, j, none⟩ (.bool x)) (.slice (some ⟨g, 0, none⟩) n cap) (xs.set j x) := by
  obtain ⟨hown, hb⟩ := h
  rcases hown.2 with ⟨e, _⟩ | ⟨g', cap', cur, e, hbase, hg, h1, h2, h3, h4⟩
  · injection e with e; cases e
  · injection e with e1 e2 e3
    injection e1 with e1
    injection e1 with e1
    subst e1 e2 e3
    refine ⟨⟨by simp, .inr ⟨g, cap, cur.setIfInBounds j (.bool x), by rw [List.length_set], hbase, heap_setCell_same w g j cur _ _ hg, by rw [List.length_set]; exact h1, h2, by simpa using h3, ?_⟩⟩, hb.setCell (p := ⟨g, j, none⟩) hbase _⟩
    rw [List.length_set, Array.toList_setIfInBounds, List.take_set, h4, List.map_set]
theorem Out.free {w0 w : World} {g n cap : Nat} {xs : List Bool} (h : Out w0 w (.slice (some ⟨g, 0, none⟩) n cap) xs) (i : Nat) (hi : i < n) : w.frozen? ⟨g, i, none⟩ = false ∧ ∃ x, w.cell? ⟨g, i, none⟩ = some x := by
  obtain ⟨b, off, e, _, hc⟩ := h.nums.2.2 i hi
  injection e with e
  injection e with e1 e2
  subst e1 e2
  rcases h.1.2 with ⟨e, _⟩ | ⟨g', cap', cur, e, _, hg, _⟩
  · injection e with e; cases e
  · injection e with e1 e2 e3
    injection e1 with e1
    injection e1 with e1
    subst e1
    exact ⟨frozen_of_row w g i cur _ hg, _, by rw [Nat.zero_add] at hc; exact hc⟩
theorem below_setRow {B : Nat} {a w : World} (h : Below B a w) {g : Nat} (hg : B ≤ g) (cs : Array Value) : Below B a (w.setRow g cs) :=
  ⟨h.os, h.tape, h.output, by simpa [World.setRow] using h.size, fun k hk => (setRow_other w g k cs (by omega)).trans (h.block k hk)⟩

/-- copy of a slice into one that the call has made. -/
theorem run_copyB (ty : TypeId) (w0 w : World) (g n cap : Nat) (xs ys : List Bool) (A : Option Addr) (m c B : Nat) (h : Out w0 w (.slice (some ⟨g, 0, none⟩) n cap) xs) (hy : Nums w B A m ys) (hnil : A = none → m = 0 ∧ c = 0) :
    ∃ z w', (Builtin.copy_ #[22, 22] ty #[.slice (some ⟨g, 0, none⟩) n cap, .slice A m c]).run Try.prog w = .ok z w' ∧ Out w0 w' (.slice (some ⟨g, 0, none⟩) n cap) (ys.take (Nat.min ys.length n) ++ xs.drop (Nat.min ys.length n)) := by
  have hm : ys.length = m := hy.1
  cases A with
  | none =>
    obtain ⟨rfl, rfl⟩ := hnil rfl
    have hy0 : ys = [] := List.eq_nil_of_length_eq_zero hm
    subst hy0
    refine ⟨_, w, run_copy_nil (P := Try.prog) w 22 22 ty 4 ⟨g, 0, none⟩ n cap Try.underlying22 (by kernel_rfl), ?_⟩
    have e0 : Nat.min ([] : List Bool).length n = 0 := Nat.zero_min n
    rw [e0]
    exact h
  | some ad =>
    have hlen := h.nums.1
    obtain ⟨hown, hb⟩ := h
    rcases hown.2 with ⟨e, _⟩ | ⟨g', cap', cur, e, hbase, hg, h1, h2, h3, h4⟩
    · injection e with e; cases e
    · injection e with e1 e2 e3
      injection e1 with e1
      injection e1 with e1
      subst e1 e2 e3
      obtain ⟨q, hq⟩ : ∃ q, Nat.min ys.length xs.length = q := ⟨_, rfl⟩
      have hq1 : q ≤ ys.length := by rw [← hq]; exact Nat.min_le_left _ _
      have hq2 : q ≤ xs.length := by rw [← hq]; exact Nat.min_le_right _ _
      have hcl : ((ys.take q).map Value.bool).length = q := by rw [List.length_map, List.length_take]; omega
      have hcap : xs.length ≤ cur.size := by rw [h3]; omega
      have hrun := run_copy_row (P := Try.prog) w 22 22 ty 4 g 0 xs.length cap ad m c cur 4 ((ys.take q).map Value.bool) Try.underlying22 (by kernel_rfl) hg (by rw [hcl, ← hq, hm]) (fun j v hj => by
        have hjq : j < q := by
          have := (List.getElem?_eq_some_iff.1 hj).1
          omega
        obtain ⟨b, off, e, _, hc⟩ := hy.2 j (by omega)
        injection e with e
        subst e
        rw [addr_add, hc]
        rw [List.getElem?_map, List.getElem?_take, if_pos hjq, List.getElem?_eq_getElem (by omega)] at hj
        rw [List.getD_eq_getElem?_getD, List.getElem?_eq_getElem (by omega)]
        simpa using hj) (by rw [hcl]; omega) (fun v hv => by
        rw [List.mem_map] at hv
        obtain ⟨z, _, rfl⟩ := hv
        rfl)
      refine ⟨_, _, hrun, ⟨by simp, .inr ⟨g, cap, _, ?_, hbase, setRow_heap w g cur _ 4 _ hg, ?_, h2, ?_, ?_⟩⟩, below_setRow hb hbase _⟩
      · rw [hq, List.length_append, List.length_take, List.length_drop, Nat.min_eq_left hq1, Nat.add_sub_cancel' hq2]
      · rw [hq, List.length_append, List.length_take, List.length_drop, Nat.min_eq_left hq1, Nat.add_sub_cancel' hq2]
        exact h1
      · rw [List.size_toArray, List.take_zero, List.nil_append, List.length_append, hcl, Nat.zero_add, List.length_drop, Array.length_toList]
        omega
      · rw [hq, List.length_append, List.length_take, List.length_drop, Nat.min_eq_left hq1, Nat.add_sub_cancel' hq2, List.toList_toArray, List.take_zero, List.nil_append, hcl, Nat.zero_add, List.map_append, List.map_drop]
        rw [List.take_append, hcl, List.take_of_length_le (by rw [hcl]; omega)]
        congr 1
        rw [← h4, List.drop_take]

theorem wpList_copyB {ops : Array Oper} {rest : List Oper} {o : Oper} {a : Act} {Q : Exit → Act → World → Prop} (hgd : o.guard = none) (s x : Operand)
    (ho : o.op = .call { callee := .builtin .copy, args := #[s, x], argTypes := #[22, 22] })
    (w0 w : World) (g n cap : Nat) (xs ys : List Bool) (A : Option Addr) (m c B : Nat) (hs : a.eval s = .slice (some ⟨g, 0, none⟩) n cap) (hx : a.eval x = .slice A m c) (h : Out w0 w (.slice (some ⟨g, 0, none⟩) n cap) xs) (hy : Nums w B A m ys) (hnil : A = none → m = 0 ∧ c = 0)
    (hk : ∀ z w', Aside (Out w0 w' (.slice (some ⟨g, 0, none⟩) n cap) (ys.take (Nat.min ys.length n) ++ xs.drop (Nat.min ys.length n))) → wpList Try.prog ops Q rest (a.put o.dst z) w') : wpList Try.prog ops Q (o :: rest) a w :=
  wpList_plain hgd fun _ hK => by
    obtain ⟨z, w', hrun, hO⟩ := run_copyB o.type w0 w g n cap xs ys A m c B h hy hnil
    unfold Oper.wp
    simp [execOp, ho, resolve, invoke, builtin, hs, hx, hrun, Result.andThen]
    exact hK _ _ (hk z w' hO)

theorem set_nextB (n k : Nat) (hkn : k < n) : (deflt k ++ List.replicate (n - k) false).set k (k % 8 == 0) = deflt (k + 1) ++ List.replicate (n - (k + 1)) false := by
  obtain ⟨r, hr⟩ : ∃ r, n - k = r + 1 := ⟨n - k - 1, by omega⟩
  have e : n - (k + 1) = r := by omega
  rw [hr, e, List.set_append_right _ _ (by rw [deflt_length]; exact Nat.le_refl _), deflt_length, Nat.sub_self, List.replicate_succ, List.set_cons_zero, deflt_succ]
  simp
theorem lim_if (width : Int) : (if (1000 : Int) < (if width < 0 then 0 else width) then (1000 : Int) else (if width < 0 then 0 else width)) = (lim width : Int) := by
  unfold lim
  split <;> split <;> omega
theorem rem8 (k : Nat) : (k : Int).tmod 8 = ((k % 8 : Nat) : Int) := by rw [Int.ofNat_tmod]; rfl

end Go.Proofs.Ytpnfpndhkegngaa
