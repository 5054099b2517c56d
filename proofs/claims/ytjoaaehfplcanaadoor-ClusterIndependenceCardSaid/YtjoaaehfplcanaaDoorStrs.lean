/-
  Slices of strings: what it means that one reads as a list of strings, how a call makes one by appending, and that the document's Same finds two that read alike the same.
-/
import Derived.Test.YtjoaaehfplcanaaDoorOut
import Derived.Test.YtjoaaehfplcanaaDoorClMath
import Derived.Laws.AppendOwnNone
import Derived.Laws.OwnMore
namespace Go.Proofs.YtjoaaehfplcanaaDoor
open Go.RowKit

theorem Tryd.infoString : (Tryd.prog.info? 9).map (fun i => (i.zero, i.size, i.bytes)) = some (some (.string ⟨#[]⟩), 1, 16) := by kernel_rfl

/-- The slice of length n at A reads, in the world w, as the strings ss, and lies below block B. -/
def Strs (w : World) (B : Nat) (A : Option Addr) (n : Nat) (ss : List ByteArray) : Prop :=
  ss.length = n ∧ ∀ j, j < n → ∃ b off, A = some ⟨b, off, none⟩ ∧ b < B ∧ w.cell? ⟨b, off + j, none⟩ = some (.string (ss.getD j ⟨#[]⟩))
theorem Strs.keep {w w' : World} {B : Nat} {A : Option Addr} {n : Nat} {ss : List ByteArray} (h : Strs w B A n ss) (hk : ∀ b o, b < B → w'.cell? ⟨b, o, none⟩ = w.cell? ⟨b, o, none⟩) : Strs w' B A n ss :=
  ⟨h.1, fun j hj => by
    obtain ⟨b, off, e, hb, hc⟩ := h.2 j hj
    exact ⟨b, off, e, hb, (hk b _ hb).trans hc⟩⟩
theorem Strs.below {w w' : World} {B B' : Nat} {A : Option Addr} {n : Nat} {ss : List ByteArray} (h : Strs w B A n ss) (hb : Below B' w w') (hB : B ≤ B') : Strs w' B A n ss :=
  h.keep fun b o hlt => hb.cell (p := ⟨b, o, none⟩) (Nat.lt_of_lt_of_le hlt hB)
theorem Strs.alloc {w : World} {B : Nat} {A : Option Addr} {n : Nat} {ss : List ByteArray} (h : Strs w B A n ss) (hB : B ≤ w.heap.size) (o : Obj) : Strs (w.alloc o) B A n ss :=
  h.keep fun b _ hlt => World.cell?_alloc_lt w o _ (by show b < w.heap.size; omega)
theorem Strs.drewN {w : World} {B : Nat} {A : Option Addr} {n : Nat} {ss : List ByteArray} (h : Strs w B A n ss) (k : Nat) : Strs (w.drewN k) B A n ss := h
theorem Strs.of_own {w : World} {base : Nat} {e : TypeId} {A : Option Addr} {n c : Nat} {ss : List ByteArray} (h : w.ownsRow base e 1 (.slice A n c) n (ss.map Value.string)) : Strs w w.heap.size A n ss := by
  have hl : ss.length = n := by have := h.1; simpa using this
  refine ⟨hl, fun j hj => ?_⟩
  rcases h.2 with ⟨_, h0⟩ | ⟨g, cap, cur, hv, _, hh, _, _, _, ht⟩
  · omega
  · have hA : A = some ⟨g, 0, none⟩ := by injection hv
    have hg : g < w.heap.size := by
      rcases Nat.lt_or_ge g w.heap.size with hlt | hge
      · exact hlt
      · rw [Array.getElem?_eq_none hge] at hh; cases hh
    refine ⟨g, 0, hA, hg, ?_⟩
    have hc : cur[j]? = some (.string (ss.getD j ⟨#[]⟩)) := by
      have e1 := congrArg (fun l : List Value => l[j]?) ht
      simp only [Nat.mul_one, List.getElem?_take, if_pos hj, Array.getElem?_toList, List.getElem?_map] at e1
      rw [e1, List.getElem?_eq_getElem (by omega), List.getD_eq_getElem?_getD, List.getElem?_eq_getElem (by omega)]
      rfl
    rw [Nat.zero_add]
    simp [World.cell?, hh, hc]
/-- A slice of strings that was just laid. -/
theorem strs_new (w : World) (ss : List ByteArray) (t : TypeId) (n : Nat) (hn : ss.length = n) : Strs (w.alloc (.cells (ss.map Value.string).toArray t)) (w.heap.size + 1) (some ⟨w.heap.size, 0, none⟩) n ss := by
  refine ⟨hn, fun j hj => ⟨w.heap.size, 0, rfl, by omega, ?_⟩⟩
  have hx : j < ss.length := by omega
  rw [Nat.zero_add]
  have e : (w.alloc (.cells (ss.map Value.string).toArray t)).heap[w.heap.size]? = some (.cells (ss.map Value.string).toArray t) := heap_alloc_new w _
  unfold World.cell?
  rw [e]
  simp [hx]

/-- What a call that began in w leaves: a slice that reads as ss, and nothing that was there has turned. -/
def GivesS (w w' : World) (A : Option Addr) (n cap : Nat) (ss : List ByteArray) : Prop :=
  Strs w' w'.heap.size A n ss ∧ (A = none → n = 0 ∧ cap = 0) ∧ Below w.heap.size w w'
/-- The call that began in w0 has made, so far, the strings ss, in the slice v. -/
def OutS (w0 w : World) (v : Value) (ss : List ByteArray) : Prop :=
  w.ownsRow w0.heap.size 9 1 v ss.length (ss.map Value.string) ∧ Below w0.heap.size w0 w
theorem OutS.start (w : World) : OutS w w (.slice none 0 0) [] := ⟨World.ownsRow_nil _ _ _ _, Below.refl _ _⟩
theorem OutS.drewN {w0 w : World} {v : Value} {ss : List ByteArray} (h : OutS w0 w v ss) (n : Nat) : OutS w0 (w.drewN n) v ss := ⟨h.1, below_drewN h.2 n⟩
theorem OutS.below {w0 w w' : World} {v : Value} {ss : List ByteArray} (h : OutS w0 w v ss) (hb : Below w.heap.size w w') : OutS w0 w' v ss :=
  ⟨owns_below h.1 hb, h.2.trans (hb.mono h.2.size)⟩
theorem OutS.alloc {w0 w : World} {v : Value} {ss : List ByteArray} (h : OutS w0 w v ss) (o : Obj) : OutS w0 (w.alloc o) v ss :=
  h.below ((Below.refl _ _).alloc (Nat.le_refl _) o)
theorem OutS.laid (w : World) : OutS w (w.alloc (.cells #[] 9)) (.slice (some ⟨w.heap.size, 0, none⟩) 0 0) [] :=
  ⟨World.ownsRow_made w #[] 0 (Nat.le_refl _) (Nat.zero_le _) rfl, (Below.refl _ _).alloc (Nat.le_refl _) _⟩
theorem row_gives {w0 w : World} {base : Nat} {v : Value} {ss : List ByteArray} (h : w.ownsRow base 9 1 v ss.length (ss.map Value.string)) (hb : Below w0.heap.size w0 w) : ∃ A n cap, v = .slice A n cap ∧ GivesS w0 w A n cap ss := by
  rcases h.2 with ⟨e, e0⟩ | ⟨g, cap, cur, e, _⟩
  · have hs : ss = [] := List.eq_nil_of_length_eq_zero e0
    subst hs
    exact ⟨none, 0, 0, e, ⟨rfl, fun j hj => by omega⟩, fun _ => ⟨rfl, rfl⟩, hb⟩
  · rw [e] at h
    exact ⟨_, _, cap, e, Strs.of_own h, (fun e => by cases e), hb⟩
theorem OutS.gives {w0 w : World} {v : Value} {ss : List ByteArray} (h : OutS w0 w v ss) : ∃ A n cap, v = .slice A n cap ∧ GivesS w0 w A n cap ss := row_gives h.1 h.2

/-- append of one string that was just laid. -/
theorem wpList_pushS {ops : Array Oper} {rest : List Oper} {o : Oper} {a : Act} {Q : Exit → Act → World → Prop} (hgd : o.guard = none) (s x : Operand)
    (ho : o.op = .call { callee := .builtin .append, args := #[s, x], argTypes := #[25, 25] })
    (w0 w : World) (v : Value) (ss : List ByteArray) (z : ByteArray) (hs : a.eval s = v) (hx : a.eval x = .slice (some ⟨w.heap.size, 0, none⟩) 1 1) (hout : OutS w0 w v ss) (hl : ss.length ≤ 100000)
    (h : ∀ v' w1, OutS w0 w1 v' (ss ++ [z]) → wpList Tryd.prog ops Q rest (a.put o.dst v') w1) : wpList Tryd.prog ops Q (o :: rest) a (w.alloc (.cells #[.string z] 9)) := by
  obtain ⟨i0, hi, hz0, hz1, hz2⟩ := info_parts Tryd.infoString
  have hsz := hout.2.size
  refine wpList_append_own _ hgd s x 25 ho w0.heap.size 9 i0 (.string ⟨#[]⟩) 1 16 Tryd.underlying25 hi hz0 hz1 hz2 rfl (by decide) v ss.length (ss.map Value.string) hs (hout.1.alloc _) ⟨w.heap.size, 0, none⟩ 1 1 [.string z] hx rfl ?_ ?_ ?_ ?_ ?_ ?_
  · intro j u hj
    match j, hj with
    | 0, hj => simp at hj; subst hj; simp [Addr.add]
  · intro u hu; simp at hu; subst hu; rfl
  · unfold maxLen; omega
  · omega
  · simp; omega
  · intro v' w1 hown hgrow _
    refine h v' w1 ⟨by simpa using hown, ?_⟩
    exact (hout.2.alloc hsz _).grown hgrow (by simp; omega) (fun k hk => (hout.1.lt k hk).1)
/-- append of a whole slice of strings, nil or not. -/
theorem wpList_joinS {ops : Array Oper} {rest : List Oper} {o : Oper} {a : Act} {Q : Exit → Act → World → Prop} (hgd : o.guard = none) (s x : Operand)
    (ho : o.op = .call { callee := .builtin .append, args := #[s, x], argTypes := #[25, 25] })
    (w0 w : World) (v : Value) (xs ys : List ByteArray) (A : Option Addr) (m c B : Nat) (hs : a.eval s = v) (hx : a.eval x = .slice A m c) (hout : OutS w0 w v xs) (hn : Strs w B A m ys) (hnil : A = none → m = 0 ∧ c = 0) (hl : xs.length + ys.length ≤ 100000)
    (h : ∀ v' w1, OutS w0 w1 v' (xs ++ ys) → wpList Tryd.prog ops Q rest (a.put o.dst v') w1) : wpList Tryd.prog ops Q (o :: rest) a w := by
  obtain ⟨i0, hi, hz0, hz1, hz2⟩ := info_parts Tryd.infoString
  have hsz := hout.2.size
  have hm : ys.length = m := hn.1
  cases A with
  | none =>
    obtain ⟨rfl, rfl⟩ := hnil rfl
    have hy : ys = [] := List.eq_nil_of_length_eq_zero hm
    subst hy
    refine wpList_append_own_none hgd s x 25 ho w0.heap.size 9 i0 1 Tryd.underlying25 hi v xs.length (xs.map Value.string) hs hout.1 hx ?_
    exact h v w (by rw [List.append_nil]; exact hout)
  | some ad =>
    refine wpList_append_own _ hgd s x 25 ho w0.heap.size 9 i0 (.string ⟨#[]⟩) 1 16 Tryd.underlying25 hi hz0 hz1 hz2 rfl (by decide) v xs.length (xs.map Value.string) hs hout.1 ad m c (ys.map Value.string) hx (by simp [hm]) ?_ ?_ ?_ ?_ ?_ ?_
    · intro j u hj
      have hjm : j < m := by
        rw [← hm]
        rcases Nat.lt_or_ge j ys.length with h1 | h1
        · exact h1
        · rw [List.getElem?_eq_none (by simpa using h1)] at hj; cases hj
      obtain ⟨b, off, e, _, hc⟩ := hn.2 j hjm
      injection e with e
      subst e
      have hu : u = .string (ys.getD j ⟨#[]⟩) := by
        have hjy : j < ys.length := by omega
        simp [hjy] at hj
        simp [hjy, ← hj]
      subst hu
      by_cases h0 : j = 0
      · subst h0; simpa [Addr.add] using hc
      · simpa [Addr.add, h0] using hc
    · intro u hu
      simp only [List.mem_map] at hu
      obtain ⟨z, _, rfl⟩ := hu
      rfl
    · unfold maxLen; omega
    · omega
    · exact hsz
    · intro v' w1 hown hgrow _
      refine h v' w1 ⟨?_, ?_⟩
      · have e : (xs ++ ys).length = xs.length + m := by rw [List.length_append, hm]
        rw [e, List.map_append]
        exact hown
      · exact hout.2.grown hgrow hsz (fun k hk => (hout.1.lt k hk).1)
/-- A guarded operation whose guard has come out as asked is taken as one without a guard. -/
theorem wpList_guarded {ops : Array Oper} {rest : List Oper} {o : Oper} {a : Act} {w : World} {Q : Exit → Act → World → Prop} (hw : Region.wanted o (yielded ops a.tmps) = true)
    (h : wpList Tryd.prog ops Q ({ o with guard := none } :: rest) a w) : wpList Tryd.prog ops Q (o :: rest) a w := by
  unfold wpList at h ⊢
  rw [if_pos hw]
  rw [if_pos (by simp [Region.wanted])] at h
  exact h

set_option maxHeartbeats 400000 in
set_option maxRecDepth 100000 in
/-- Two slices that read as the same strings are the same. -/
theorem sameS_true (A1 A2 : Option Addr) (n1 n2 c1 c2 B1 B2 : Nat) (ss : List ByteArray) (w : World) (hn : n1 ≤ 100000) (h1 : Strs w B1 A1 n1 ss) (h2 : Strs w B2 A2 n2 ss) :
    Calls Tryd.prog 13 #[.slice A1 n1 c1, .slice A2 n2 c2] w fun e w' => e = .returned (.bool true) ∧ ∃ m, w' = w.drewN m := by
  obtain rfl : n1 = n2 := h1.1.symm.trans h2.1
  have hne : ((n1 : Int) != (n1 : Int)) = false := by simp
  go_enter Tryd.func13, Tryd.ntmps13
  go_wp2
  go_loopw [5] (fun i wr => ∃ k m : Nat, k ≤ n1 ∧ i = .int .i64 k ∧ wr = w.drewN m) (fun i _ => n1 - (intOf i).toNat)
  case atStart => exact ⟨0, 0, Nat.zero_le _, rfl, rfl⟩
  case round =>
    obtain ⟨k, m, hk, rfl, rfl⟩ := hrel
    by_cases hlt : k < n1
    · obtain ⟨b1, o1, rfl, hb1, hc1⟩ := h1.2 k hlt
      obtain ⟨b2, o2, rfl, hb2, hc2⟩ := h2.2 k hlt
      generalize ss.getD k ⟨#[]⟩ = x at hc1 hc2
      have hz : (k : Int) < (n1 : Int) := by omega
      have hz0 : (0 : Int) ≤ (k : Int) := by omega
      clear h1 h2 hlt
      go_wp2
      go_quiet (fail)
      go_wp2
      go_roundw
      case rel => exact ⟨k + 1, m + nq, by omega, by go_num, rfl⟩
      case measure => simp [intOf]; omega
    · have hz : ¬ (k : Int) < (n1 : Int) := by omega
      clear h1 h2
      go_wp2
      go_ret
      exact ⟨rfl, m, rfl⟩

end Go.Proofs.YtjoaaehfplcanaaDoor
