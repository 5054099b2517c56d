/-
  append of a slice of cells to one of the call's own, or to one without spare room.
-/
import Derived.Test.YtcljmmadimldlaaDoorCrCell
import Derived.ArgAppend
import Derived.Laws.AppendOwnNone
import Derived.Laws.OwnMore
namespace Go.Proofs.YtcljmmadimldlaaDoor
open Go.RowKit Cr

theorem run_joinC (ty : TypeId) (w0 w : World) (v : Value) (l ys : List C) (A : Option Addr) (m c : Nat) (hv : Mine w0 w v l) (hy : Rd w A m ys) (hnil : A = none → m = 0 ∧ c = 0) (hl : l.length + ys.length ≤ 100000) :
    ∃ (A' : Option Addr) (n' c' : Nat) (w' : World), (Builtin.append_ #[22, 22] ty #[v, .slice A m c]).run Tryd.prog w = .ok (.slice A' n' c') w' ∧ Mine w0 w' (.slice A' n' c') (l ++ ys) := by
  obtain ⟨i0, hi, hz0, hz1, hz2⟩ := info_parts Tryd.infoCell
  have hm : ys.length = m := hy.1
  obtain ⟨hb, hc⟩ := hv
  have hsz := hb.size
  rcases hc with hown | ⟨b, off, rfl, hr⟩
  · cases A with
    | none =>
      obtain ⟨rfl, rfl⟩ := hnil rfl
      have hy0 : ys = [] := List.eq_nil_of_length_eq_zero hm
      subst hy0
      have hrun := run_append_owned_none (P := Tryd.prog) (w := w) w0.heap.size 22 ty 48 i0 5 Tryd.underlying22 hi v l.length (flat l) hown
      have hM : Mine w0 w v (l ++ []) := by rw [List.append_nil]; exact ⟨hb, .inl hown⟩
      obtain ⟨A', c', e⟩ := hM.slice
      subst e
      exact ⟨A', _, c', w, hrun, hM⟩
    | some ad =>
      obtain ⟨ab, ao, asp⟩ := ad
      by_cases hm0 : m = 0
      · subst hm0
        have hy0 : ys = [] := List.eq_nil_of_length_eq_zero hm
        subst hy0
        obtain ⟨v', w', hrun, hown', hgrow, _⟩ := run_append_own (P := Tryd.prog) w w0.heap.size 22 ty 48 i0 _ 5 48 Tryd.underlying22 hi hz0 hz1 hz2 rfl (by decide) v l.length (flat l) hown ⟨ab, ao, asp⟩ 0 c [] rfl (fun j u hj => by simp at hj) (fun u hu => by cases hu) (by unfold maxLen; omega) (by omega) hsz
        have hM : Mine w0 w' v' (l ++ []) := ⟨hb.grown hgrow hsz (fun k hk => (hown.lt k hk).1), .inl (by rw [List.append_nil]; simpa using hown')⟩
        obtain ⟨A', c', e⟩ := hM.slice
        subst e
        exact ⟨A', _, c', w', hrun, hM⟩
      · have hsp : asp = none := by
          have h0 : 0 < ys.length := by omega
          obtain ⟨b', off', e, _⟩ := hy.2 0 ys[0] (List.getElem?_eq_getElem h0)
          exact congrArg Addr.spot (Option.some.inj e)
        subst hsp
        obtain ⟨v', w', hrun, hown', hgrow, _⟩ := run_append_own (P := Tryd.prog) w w0.heap.size 22 ty 48 i0 _ 5 48 Tryd.underlying22 hi hz0 hz1 hz2 rfl (by decide) v l.length (flat l) hown ⟨ab, ao, none⟩ m c (flat ys) (by rw [flat_length, hm]) (fun j u hj => by rw [addr_add]; exact hy.cells j u hj) (fun u hu => flat_one hu) (by unfold maxLen; omega) (by omega) hsz
        have hM : Mine w0 w' v' (l ++ ys) := by
          refine ⟨hb.grown hgrow hsz (fun k hk => (hown.lt k hk).1), .inl ?_⟩
          rw [List.length_append, flat_app, hm]
          exact hown'
        obtain ⟨A', c', e⟩ := hM.slice
        subst e
        exact ⟨A', _, c', w', hrun, hM⟩
  · by_cases hm0 : m = 0
    · subst hm0
      have hy0 : ys = [] := List.eq_nil_of_length_eq_zero hm
      subst hy0
      refine ⟨some ⟨b, off, none⟩, l.length, l.length, w, ?_, ?_⟩
      · cases A <;> simp [Builtin.append_, run_underlying Tryd.underlying22, sizeOf, typeInfo, hi, Builtin.lenOf, Builtin.firstCells, storeCells, loadCells, loadCellsFrom]
      · rw [List.append_nil]
        exact ⟨hb, .inr ⟨b, off, rfl, hr⟩⟩
    · cases A with
      | none => exact absurd (hnil rfl).1 hm0
      | some ad =>
        obtain ⟨ab, ao, asp⟩ := ad
        have hsp : asp = none := by
          have h0 : 0 < ys.length := by omega
          obtain ⟨b', off', e, _⟩ := hy.2 0 ys[0] (List.getElem?_eq_getElem h0)
          exact congrArg Addr.spot (Option.some.inj e)
        subst hsp
        obtain ⟨v', w', hrun, hown', hgrow⟩ := run_append_arg_grows (P := Tryd.prog) w 22 ty 48 i0 _ 5 48 Tryd.underlying22 hi hz0 hz1 hz2 rfl (by decide) ⟨b, off, none⟩ l.length l.length (flat l) (flat_length l) (fun j u hj => by rw [addr_add]; exact hr.cells j u hj) ⟨ab, ao, none⟩ m c (flat ys) (by rw [flat_length, hm]) (fun j u hj => by rw [addr_add]; exact hy.cells j u hj) (by omega) (by unfold maxLen; omega) (by omega)
        have hM : Mine w0 w' v' (l ++ ys) := by
          have hB : Below w.heap.size w w' := (Below.refl _ w).grown hgrow (Nat.le_refl _) (fun k hk => by cases hk)
          have hO : Own w w' v' (l ++ ys) := ⟨by rw [List.length_append, flat_app, hm]; exact hown', hB⟩
          exact (hO.rebase hb).mine
        obtain ⟨A', c', e⟩ := hM.slice
        subst e
        exact ⟨A', _, c', w', hrun, hM⟩
theorem wp_joinC {o : Oper} {a : Act} {K : Act → World → Prop} {Q : Exit → Act → World → Prop} (s x : Operand)
    (ho : o.op = .call { callee := .builtin .append, args := #[s, x], argTypes := #[22, 22] })
    (w0 w : World) (v : Value) (l ys : List C) (A : Option Addr) (m c : Nat) (hs : a.eval s = v) (hx : a.eval x = .slice A m c) (hv : Mine w0 w v l) (hy : Rd w A m ys) (hnil : A = none → m = 0 ∧ c = 0) (hl : l.length + ys.length ≤ 100000)
    (h : ∀ (A' : Option Addr) (n' c' : Nat) w', Aside (Mine w0 w' (.slice A' n' c') (l ++ ys)) → K (a.put o.dst (.slice A' n' c')) w') : Oper.wp Tryd.prog o a w K Q := by
  obtain ⟨A', n', c', w', hrun, hO⟩ := run_joinC o.type w0 w v l ys A m c hv hy hnil hl
  unfold Oper.wp
  simp [execOp, ho, resolve, invoke, builtin, hs, hx, hrun, Result.andThen]
  exact h A' n' c' w' hO
theorem wpList_joinC {ops : Array Oper} {rest : List Oper} {o : Oper} {a : Act} {Q : Exit → Act → World → Prop} (hgd : o.guard = none) (s x : Operand)
    (ho : o.op = .call { callee := .builtin .append, args := #[s, x], argTypes := #[22, 22] })
    (w0 w : World) (v : Value) (l ys : List C) (A : Option Addr) (m c : Nat) (hs : a.eval s = v) (hx : a.eval x = .slice A m c) (hv : Mine w0 w v l) (hy : Rd w A m ys) (hnil : A = none → m = 0 ∧ c = 0) (hl : l.length + ys.length ≤ 100000)
    (h : ∀ (A' : Option Addr) (n' c' : Nat) w', Aside (Mine w0 w' (.slice A' n' c') (l ++ ys)) → wpList Tryd.prog ops Q rest (a.put o.dst (.slice A' n' c')) w') : wpList Tryd.prog ops Q (o :: rest) a w :=
  wpList_plain hgd fun _ hK => wp_joinC s x ho w0 w v l ys A m c hs hx hv hy hnil hl fun A' n' c' w' hO => hK _ _ (h A' n' c' w' hO)
/-- The same at a step of a region that draws its order. -/
theorem step_joinC {ops : Array Oper} {o : Oper} {a : Act} {K : Act → World → Prop} {Q : Exit → Act → World → Prop} {E : Prop} (hgd : o.guard = none) (s x : Operand)
    (ho : o.op = .call { callee := .builtin .append, args := #[s, x], argTypes := #[22, 22] })
    (w0 w : World) (v : Value) (l ys : List C) (A : Option Addr) (m c : Nat) (hs : a.eval s = v) (hx : a.eval x = .slice A m c) (hv : Mine w0 w v l) (hy : Rd w A m ys) (hnil : A = none → m = 0 ∧ c = 0) (hl : l.length + ys.length ≤ 100000)
    (h : ∀ (A' : Option Addr) (n' c' : Nat) w', Aside (Mine w0 w' (.slice A' n' c') (l ++ ys)) → K (a.put o.dst (.slice A' n' c')) w') :
    if Region.wanted o (yielded ops a.tmps) = true then Oper.wp Tryd.prog o a w K Q else E := by
  have hw : Region.wanted o (yielded ops a.tmps) = true := by simp [Region.wanted, hgd]
  rw [if_pos hw]
  exact wp_joinC s x ho w0 w v l ys A m c hs hx hv hy hnil hl h

end Go.Proofs.YtcljmmadimldlaaDoor
