/-
  How a statement of layer 1 uses what the functions return: slices that read as numbers, kept over later calls, and joined by append.
-/
import Derived.Test.YtihfjkjbeeoanaaDoorFresh
import Derived.Laws.AppendOwnNone
namespace Go.Proofs.YtihfjkjbeeoanaaDoor
open Go.RowKit Go.Shelf

/-- What a call that began in w leaves: a slice that reads as xs, and nothing that was there has turned. -/
def Gives (w w' : World) (A : Option Addr) (n cap : Nat) (xs : List Int) : Prop :=
  Nums w' w'.heap.size A n xs ∧ (A = none → n = 0 ∧ cap = 0) ∧ Below w.heap.size w w'
theorem Out.gives {w w' : World} {A : Option Addr} {n cap : Nat} {xs : List Int} (h : Out w w' (.slice A n cap) xs) : Gives w w' A n cap xs := by
  refine ⟨h.nums.2, fun e => ?_, h.2⟩
  subst e
  rcases h.1.2 with ⟨e, _⟩ | ⟨g, c, cur, e, _⟩
  · injection e with _ e1 e2; exact ⟨e1, e2⟩
  · injection e with e1; cases e1
theorem Gives.length {w w' : World} {A : Option Addr} {n cap : Nat} {xs : List Int} (h : Gives w w' A n cap xs) : n = xs.length := h.1.1.symm

theorem decode_gives (p c : ByteArray) (w : World) (hsz : p.size + c.size ≤ 1000) (hT : Lib.Utf8Tabs 0 1 w) :
    Calls Tryd.prog 18 #[.string p, .string c] w fun e w' => ∃ A n cap t, e = .returned (.tuple #[.slice A n cap, .string t]) ∧
      t.data.toList = (U8.run (p.data.toList ++ c.data.toList)).2 ∧ Gives w w' A n cap (U8.run (p.data.toList ++ c.data.toList)).1 :=
  (decode_any p c w hsz hT).mono fun _ _ ⟨A, cap, he, h⟩ => ⟨A, _, cap, _, he, by simp, h.gives⟩
theorem decode_gives_fresh (c : ByteArray) (w : World) (hsz : c.size ≤ 1000) (hT : Lib.Utf8Tabs 0 1 w) :
    Calls Tryd.prog 18 #[.string { data := #[] }, .string c] w fun e w' => ∃ A n cap t, e = .returned (.tuple #[.slice A n cap, .string t]) ∧
      t.data.toList = (U8.run c.data.toList).2 ∧ Gives w w' A n cap (U8.run c.data.toList).1 :=
  (decode_fresh c w hsz hT).mono fun _ _ ⟨A, cap, he, h⟩ => ⟨A, _, cap, _, he, by simp, h.gives⟩
theorem Out.reads {w0 w : World} {v : Value} {xs : List Int} (h : Out w0 w v xs) : ∃ A n cap, v = .slice A n cap ∧ Nums w w.heap.size A n xs := by
  obtain ⟨A, cap, e⟩ := h.slice
  subst e
  exact ⟨A, _, cap, rfl, h.nums.2⟩
/-- An empty slice that was just laid. -/
theorem Out.laid (w : World) : Out w (w.alloc (.cells #[] 21)) (.slice (some ⟨w.heap.size, 0, none⟩) 0 0) [] :=
  ⟨World.ownsRow_made w #[] 0 (Nat.le_refl _) (Nat.zero_le _) rfl, (Below.refl _ _).alloc (Nat.le_refl _) _⟩

set_option maxRecDepth 100000 in
/-- append of a whole slice, nil or not, that reads as ys. -/
theorem wpList_join {ops : Array Oper} {rest : List Oper} {o : Oper} {a : Act} {Q : Exit → Act → World → Prop} (hgd : o.guard = none) (s x : Operand)
    (ho : o.op = .call { callee := .builtin .append, args := #[s, x], argTypes := #[36, 36] })
    (w0 w : World) (v : Value) (xs ys : List Int) (A : Option Addr) (m c B : Nat) (hs : a.eval s = v) (hx : a.eval x = .slice A m c) (hout : Out w0 w v xs) (hn : Nums w B A m ys) (hnil : A = none → m = 0 ∧ c = 0) (hl : xs.length + ys.length ≤ 100000)
    (h : ∀ v' w1, Out w0 w1 v' (xs ++ ys) → wpList Tryd.prog ops Q rest (a.put o.dst v') w1) : wpList Tryd.prog ops Q (o :: rest) a w := by
  obtain ⟨i0, hi, hz0, hz1, hz2⟩ := info_parts Tryd.infoRune
  have hsz := hout.2.size
  have hm : ys.length = m := hn.1
  cases A with
  | none =>
    obtain ⟨rfl, rfl⟩ := hnil rfl
    have hy : ys = [] := List.eq_nil_of_length_eq_zero hm
    subst hy
    refine wpList_append_own_none hgd s x 36 ho w0.heap.size 21 i0 1 Tryd.underlying36 hi v xs.length (xs.map (Value.int .i32)) hs hout.1 hx ?_
    exact h v w (by rw [List.append_nil]; exact hout)
  | some ad =>
    refine wpList_append_own _ hgd s x 36 ho w0.heap.size 21 i0 (.int .i32 0) 1 4 Tryd.underlying36 hi hz0 hz1 hz2 rfl (by decide) v xs.length (xs.map (Value.int .i32)) hs hout.1 ad m c (ys.map (Value.int .i32)) hx (by simp [hm]) ?_ ?_ ?_ ?_ ?_ ?_
    · intro j u hj
      have hjm : j < m := by
        rw [← hm]
        rcases Nat.lt_or_ge j ys.length with h1 | h1
        · exact h1
        · rw [List.getElem?_eq_none (by simpa using h1)] at hj; cases hj
      obtain ⟨b, off, e, _, hc⟩ := hn.2 j hjm
      injection e with e
      subst e
      have hu : u = .int .i32 (ys.getD j 0) := by
        have hjy : j < ys.length := by omega
        simp [hjy] at hj
        simp [hjy, ← hj]
      subst hu
      by_cases h0 : j = 0
      · subst h0; simpa [Addr.add] using hc
      · simpa [Addr.add, h0] using hc
    · intro u hu
      simp only [List.mem_map] at hu
      obtain ⟨z, _, rfl⟩ := hu
      rfl
    · unfold maxLen; omega
    · omega
    · exact hsz
    · intro v' w1 hown hgrow _
      refine h v' w1 ⟨?_, ?_⟩
      · have e : (xs ++ ys).length = xs.length + m := by rw [List.length_append, hm]
        rw [e, List.map_append]
        exact hown
      · exact hout.2.grown hgrow hsz (fun k hk => (hout.1.lt k hk).1)

end Go.Proofs.YtihfjkjbeeoanaaDoor
