/-
  slices.Clone of a row.
-/
import Derived.Test.YtcljmmadimldlaaDoorCrRepeat
namespace Go.Proofs.YtcljmmadimldlaaDoor
open Go.RowKit Cr

theorem Own.empty (w : World) : Own w (w.alloc (.cells #[] 48)) (.slice (some ⟨w.heap.size, 0, none⟩) 0 0) [] := Own.laid w [] _ 0 rfl (by decide) rfl
theorem run_joinO (ty : TypeId) (w0 w : World) (v : Value) (l ys : List C) (b off m c : Nat) (hv : Own w0 w v l) (hy : Rd w (some ⟨b, off, none⟩) m ys) (hl : l.length + ys.length ≤ 100000) :
    ∃ (v' : Value) (w' : World), (Builtin.append_ #[22, 22] ty #[v, .slice (some ⟨b, off, none⟩) m c]).run Tryd.prog w = .ok v' w' ∧ Own w0 w' v' (l ++ ys) ∧ (v ≠ .slice none 0 0 → v' ≠ .slice none 0 0) := by
  obtain ⟨i0, hi, hz0, hz1, hz2⟩ := info_parts Tryd.infoCell
  have hm : ys.length = m := hy.1
  obtain ⟨hown, hb⟩ := hv
  have hsz := hb.size
  obtain ⟨v', w', hrun, hown', hgrow, hn⟩ := run_append_own (P := Tryd.prog) w w0.heap.size 22 ty 48 i0 _ 5 48 Tryd.underlying22 hi hz0 hz1 hz2 rfl (by decide) v l.length (flat l) hown ⟨b, off, none⟩ m c (flat ys) (by rw [flat_length, hm]) (fun j u hj => by rw [addr_add]; exact hy.cells j u hj) (fun u hu => flat_one hu) (by unfold maxLen; omega) (by omega) hsz
  exact ⟨v', w', hrun, ⟨by rw [List.length_append, flat_app, hm]; exact hown', hb.grown hgrow hsz (fun k hk => (hown.lt k hk).1)⟩, fun h h' => h (hn.1 h').1⟩

theorem wp_joinO {o : Oper} {a : Act} {K : Act → World → Prop} {Q : Exit → Act → World → Prop} (s x : Operand)
    (ho : o.op = .call { callee := .builtin .append, args := #[s, x], argTypes := #[22, 22] })
    (w0 w : World) (v : Value) (l ys : List C) (b off m c : Nat) (hs : a.eval s = v) (hx : a.eval x = .slice (some ⟨b, off, none⟩) m c) (hv : Own w0 w v l) (hy : Rd w (some ⟨b, off, none⟩) m ys) (hl : l.length + ys.length ≤ 100000) (hne : v ≠ .slice none 0 0)
    (h : ∀ (g c' : Nat) w', Aside (Own w0 w' (.slice (some ⟨g, 0, none⟩) (l.length + ys.length) c') (l ++ ys)) → K (a.put o.dst (.slice (some ⟨g, 0, none⟩) (l.length + ys.length) c')) w') : Oper.wp Tryd.prog o a w K Q := by
  obtain ⟨v', w', hrun, hO, hn⟩ := run_joinO o.type w0 w v l ys b off m c hv hy hl
  have hs' : ∃ g c', v' = .slice (some ⟨g, 0, none⟩) (l.length + ys.length) c' := by
    rcases hO.slice with ⟨e, _⟩ | ⟨g, cap, e, _⟩
    · exact absurd e (hn hne)
    · exact ⟨g, cap, by rw [e, List.length_append]⟩
  obtain ⟨g, c', rfl⟩ := hs'
  unfold Oper.wp
  simp [execOp, ho, resolve, invoke, builtin, hs, hx, hrun, Result.andThen]
  exact h g c' w' hO
theorem wpList_joinO {ops : Array Oper} {rest : List Oper} {o : Oper} {a : Act} {Q : Exit → Act → World → Prop} (hgd : o.guard = none) (s x : Operand)
    (ho : o.op = .call { callee := .builtin .append, args := #[s, x], argTypes := #[22, 22] })
    (w0 w : World) (v : Value) (l ys : List C) (b off m c : Nat) (hs : a.eval s = v) (hx : a.eval x = .slice (some ⟨b, off, none⟩) m c) (hv : Own w0 w v l) (hy : Rd w (some ⟨b, off, none⟩) m ys) (hl : l.length + ys.length ≤ 100000) (hne : v ≠ .slice none 0 0)
    (h : ∀ (g c' : Nat) w', Aside (Own w0 w' (.slice (some ⟨g, 0, none⟩) (l.length + ys.length) c') (l ++ ys)) → wpList Tryd.prog ops Q rest (a.put o.dst (.slice (some ⟨g, 0, none⟩) (l.length + ys.length) c')) w') : wpList Tryd.prog ops Q (o :: rest) a w :=
  wpList_plain hgd fun _ hK => wp_joinO s x ho w0 w v l ys b off m c hs hx hv hy hl hne fun g c' w' hO => hK _ _ (h g c' w' hO)

set_option maxHeartbeats 1000000 in
set_option maxRecDepth 100000 in
theorem cloneR_any (b off n c : Nat) (l : List C) (hn : n ≤ 1000) (w : World) (hr : Rd w (some ⟨b, off, none⟩) n l) :
    Calls Tryd.prog 47 #[.slice (some ⟨b, off, none⟩) n c] w fun e w' => ∃ g cap, e = .returned (.slice (some ⟨g, 0, none⟩) n cap) ∧ Own w w' (.slice (some ⟨g, 0, none⟩) n cap) l := by
  have hl : l.length = n := hr.1
  subst hl
  have HO := Lib.hid (Own.empty w)
  have HR := Lib.hid (hr.alloc (.cells #[] 48))
  have hlen : ([] : List C).length + l.length ≤ 100000 := by simp; omega
  have hne : Value.slice (some ⟨w.heap.size, 0, none⟩) 0 0 ≠ .slice none 0 0 := by intro e; cases e
  clear hr
  have q22 : ∀ (w : World) (a : Option Addr) (n c n' c' : Nat), (binOp .eql 22 (.slice a n c) (.slice none n' c')).run Tryd.prog w = .ok (.bool a.isNone) w := fun w a n c n' c' => Lib.run_eql_slice_nil w _ _ a n c n' c' Tryd.underlying22
  go_enter Tryd.func47, Tryd.ntmps47
  go_wp2_with (at_builtin; refine wpList_joinO rfl (.tmp 5) (.tmp 6) rfl w _ _ [] l b off l.length c rfl rfl HO.out HR.out hlen hne ?_; intro g c' w4 hout4; rw [List.nil_append, List.length_nil, Nat.zero_add] at hout4)
  go_ret
  exact ⟨_, _, by simp, hout4.out⟩

end Go.Proofs.YtcljmmadimldlaaDoor
