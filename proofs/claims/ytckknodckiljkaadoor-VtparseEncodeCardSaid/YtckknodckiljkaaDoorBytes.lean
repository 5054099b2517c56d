/-
  A slice of bytes that a call makes: what is known of it, how append and strconv.AppendInt carry it on, and its conversion to a string.
-/
import Derived.Test.YtckknodckiljkaaDoorCsSmall
import Derived.Lib.AppendIntMem
import Derived.Lib.ItoaLen
import Derived.Laws.IdiomStrings
namespace Go.Proofs.YtckknodckiljkaaDoor.Ci
open Go.RowKit Go.Shelf

theorem Tryd.infoByte : (Tryd.prog.info? 5).map (fun i => (i.zero, i.size, i.bytes)) = some (some (.int .u8 0), 1, 1) := by kernel_rfl

/-- The name of the table of powers of ten, as the rows list it. -/
def powName : String := match Rows.vtparseValidRow.laid with
  | [_, _, (n, _), _, _] => n
  | _ => "none"
/-- The table lies in its variable. -/
def Pw (w : World) : Prop := Lib.TabIs Tryd.prog w powName .u64 Lib.pow10Tab
theorem Pw.below {w w' : World} (h : Pw w) (hb : Below w.heap.size w w') : Pw w' := Lib.tabBelow_of_tabIs h w' hb

/-- The call that began in w0 has made, so far, the bytes l, in the slice v. -/
def OutB (w0 w : World) (v : Value) (l : List UInt8) : Prop :=
  w.ownsRow w0.heap.size 5 1 v l.length (Lib.byteCells l) ∧ Below w0.heap.size w0 w
theorem OutB.start (w : World) : OutB w w (.slice none 0 0) [] := ⟨World.ownsRow_nil _ _ _ _, Below.refl _ _⟩
theorem OutB.slice {w0 w : World} {v : Value} {l : List UInt8} (h : OutB w0 w v l) : ∃ A n cap, v = .slice A n cap := by
  rcases h.1.2 with ⟨e, _⟩ | ⟨g, cap, cur, e, _⟩
  · exact ⟨_, _, _, e⟩
  · exact ⟨_, _, _, e⟩

/-- append of one byte that was just laid. -/
theorem wpList_pushB {ops : Array Oper} {rest : List Oper} {o : Oper} {a : Act} {Q : Exit → Act → World → Prop} (hgd : o.guard = none) (s x : Operand)
    (ho : o.op = .call { callee := .builtin .append, args := #[s, x], argTypes := #[44, 44] })
    (w0 w : World) (v : Value) (l : List UInt8) (z : Int) (b : UInt8) (hb : (b.toNat : Int) = z) (hs : a.eval s = v) (hx : a.eval x = .slice (some ⟨w.heap.size, 0, none⟩) 1 1) (hout : OutB w0 w v l) (hl : l.length ≤ 100000)
    (h : ∀ (A' : Option Addr) (n' c' : Nat) w1, Aside (OutB w0 w1 (.slice A' n' c') (l ++ [b])) → wpList Tryd.prog ops Q rest (a.put o.dst (.slice A' n' c')) w1) : wpList Tryd.prog ops Q (o :: rest) a (w.alloc (.cells #[.int .u8 z] 5)) := by
  subst hb
  obtain ⟨i0, hi, hz0, hz1, hz2⟩ := info_parts Tryd.infoByte
  have hsz := hout.2.size
  refine wpList_append_own _ hgd s x 44 ho w0.heap.size 5 i0 (.int .u8 0) 1 1 Tryd.underlying44 hi hz0 hz1 hz2 rfl (by decide) v l.length (Lib.byteCells l) hs (hout.1.alloc _) ⟨w.heap.size, 0, none⟩ 1 1 [.int .u8 b.toNat] hx rfl ?_ ?_ ?_ ?_ ?_ ?_
  · intro j u hj
    match j, hj with
    | 0, hj => simp at hj; subst hj; simp [Addr.add]
  · intro u hu; simp at hu; subst hu; rfl
  · unfold maxLen; omega
  · omega
  · simp; omega
  · intro v' w1 hown hgrow _
    have hout' : OutB w0 w1 v' (l ++ [b]) := by
      refine ⟨?_, (hout.2.alloc hsz _).grown hgrow (by simp; omega) (fun k hk => (hout.1.lt k hk).1)⟩
      have e : Lib.byteCells (l ++ [b]) = Lib.byteCells l ++ [.int .u8 b.toNat] := by simp [Lib.byteCells]
      rw [e, List.length_append]
      exact hown
    obtain ⟨A', n', c', rfl⟩ := hout'.slice
    exact h A' n' c' w1 hout'

/-- strconv.AppendInt at base 10. -/
theorem appendInt_any (w0 w : World) (v : Value) (l : List UInt8) (i : Int) (h0 : -9223372036854775808 ≤ i) (h1 : i ≤ 9223372036854775807) (hP : Pw w0) (hout : OutB w0 w v l) (hl : l.length ≤ 100000) :
    Calls Tryd.prog 56 #[v, .int .i64 i, .int .i64 10] w fun e w' => ∃ A' n' c', e = .returned (.slice A' n' c') ∧ OutB w0 w' (.slice A' n' c') (l ++ Lib.itoa i) := by
  have c := Any.strconv_AppendInt_10 Tryd.laysM176 w0.heap.size l.length i h0 h1 v (Lib.byteCells l) w hout.1 hout.2.size (by omega) ((Lib.tabBelow_of_tabIs hP).on hout.2)
  refine Calls.mono c ?_
  rintro e w' ⟨v', rfl, hown, hb, _⟩
  have hout' : OutB w0 w' v' (l ++ Lib.itoa i) := by
    refine ⟨?_, hout.2.trans hb⟩
    have e : Lib.byteCells (l ++ Lib.itoa i) = Lib.byteCells l ++ Lib.byteCells (Lib.itoa i) := by simp [Lib.byteCells]
    rw [e, List.length_append]
    exact hown
  obtain ⟨A', n', c', rfl⟩ := hout'.slice
  exact ⟨A', n', c', rfl, hout'⟩

/-- string(b) of the bytes that a call has made. -/
theorem OutB.string {w0 w : World} {v : Value} {l : List UInt8} (h : OutB w0 w v l) : (convert 44 9 v).run Tryd.prog w = .ok (.string ⟨l.toArray⟩) w := by
  rcases h.1.2 with ⟨e, e0⟩ | ⟨g, cap, cur, e, hb, hg, _, _, _, ht⟩
  · have hl : l = [] := List.eq_nil_of_length_eq_zero e0
    subst hl
    rw [e, run_convert_bytes_string w 44 9 5 none 0 0 Tryd.underlying44 Tryd.underlying5 Tryd.underlying9]
    rfl
  · rw [e]
    have hown := h.1
    rw [e] at hown
    exact run_convert_bytes_back (P := Tryd.prog) w 44 9 5 ⟨g, 0, none⟩ cap l Tryd.underlying44 Tryd.underlying5 Tryd.underlying9 (fun j hj => hown.cells (g := g) rfl j _ (by simp [Lib.byteCells, hj]))

end Go.Proofs.YtckknodckiljkaaDoor.Ci
