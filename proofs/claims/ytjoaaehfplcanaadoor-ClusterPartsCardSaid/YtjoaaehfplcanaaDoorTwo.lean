/-
  Two slices that one call makes side by side: numbers, and bytes; what an append to one, a fresh slice of bytes, and the conversion of the bytes to a string do.
-/
import Derived.Test.YtjoaaehfplcanaaDoorRefSmall
namespace Go.Proofs.YtjoaaehfplcanaaDoor
open Go.RowKit Go.Shelf

theorem Tryd.infoByte : (Tryd.prog.info? 5).map (fun i => (i.zero, i.size, i.bytes)) = some (some (.int .u8 0), 1, 1) := by kernel_rfl

def cellsOfBytes (l : List UInt8) : List Value := l.map fun c => Value.int .u8 (c.toNat : Int)

/-- The call that began in w0 has made the numbers xs in the slice v, and holds the bytes l in the slice u. -/
def Two (w0 w : World) (v : Value) (xs : List Int) (u : Value) (l : List UInt8) : Prop :=
  w.ownsRow w0.heap.size 21 1 v xs.length (xs.map (Value.int .i32)) ∧ w.ownsRow w0.heap.size 5 1 u l.length (cellsOfBytes l) ∧ Below w0.heap.size w0 w

theorem Two.start (w : World) : Two w ((w.alloc (.cells #[] 21)).alloc (.cells #[] 5)) (.slice (some ⟨w.heap.size, 0, none⟩) 0 0) [] (.slice (some ⟨w.heap.size + 1, 0, none⟩) 0 0) [] := by
  refine ⟨(World.ownsRow_made w #[] 0 (Nat.le_refl _) (Nat.zero_le _) rfl).alloc _, ?_, ((Below.refl _ _).alloc (Nat.le_refl _) _).alloc (by simp) _⟩
  have h := World.ownsRow_made (base := w.heap.size) (e := 5) (size := 1) (w.alloc (.cells #[] 21)) #[] 0 (by simp) (Nat.zero_le _) rfl
  have e : (w.alloc (.cells #[] 21)).heap.size = w.heap.size + 1 := by simp
  rw [e] at h
  exact h
theorem Two.out {w0 w : World} {v u : Value} {xs : List Int} {l : List UInt8} (h : Two w0 w v xs u l) : Out w0 w v xs := ⟨h.1, h.2.2⟩
theorem Two.drewN {w0 w : World} {v u : Value} {xs : List Int} {l : List UInt8} (h : Two w0 w v xs u l) (n : Nat) : Two w0 (w.drewN n) v xs u l := ⟨h.1, h.2.1, below_drewN h.2.2 n⟩
theorem Two.alloc {w0 w : World} {v u : Value} {xs : List Int} {l : List UInt8} (h : Two w0 w v xs u l) (o : Obj) : Two w0 (w.alloc o) v xs u l := ⟨h.1.alloc o, h.2.1.alloc o, h.2.2.alloc h.2.2.size o⟩
theorem Two.fresh {w0 w : World} {v u : Value} {xs : List Int} {l : List UInt8} (h : Two w0 w v xs u l) : Two w0 (w.alloc (.cells #[] 5)) v xs (.slice (some ⟨w.heap.size, 0, none⟩) 0 0) [] :=
  ⟨h.1.alloc _, World.ownsRow_made w #[] 0 h.2.2.size (Nat.zero_le _) rfl, h.2.2.alloc h.2.2.size _⟩
theorem Two.apart {w0 w : World} {v u : Value} {xs : List Int} {l : List UInt8} (h : Two w0 w v xs u l) : v.ownBlock = none ∨ v.ownBlock ≠ u.ownBlock := by
  rcases h.1.2 with ⟨rfl, _⟩ | ⟨g, cap, cur, rfl, _, hg, _⟩
  · exact .inl rfl
  · right
    rcases h.2.1.2 with ⟨rfl, _⟩ | ⟨g', cap', cur', rfl, _, hg', _⟩
    · simp [Value.ownBlock]
    · intro e
      have e : g = g' := by simpa [Value.ownBlock] using e
      subst e
      rw [hg] at hg'
      injection hg' with hg'
      injection hg' with _ ht
      exact absurd ht (by decide)
theorem Two.apart' {w0 w : World} {v u : Value} {xs : List Int} {l : List UInt8} (h : Two w0 w v xs u l) : u.ownBlock = none ∨ u.ownBlock ≠ v.ownBlock := by
  rcases h.2.1.2 with ⟨rfl, _⟩ | ⟨g', cap', cur', e, _⟩
  · exact .inl rfl
  · right
    rcases h.apart with h1 | h1
    · rw [h1, e]; simp [Value.ownBlock]
    · exact fun e => h1 e.symm
/-- The slice of bytes, as it stands in a slot. -/
theorem Two.kept {w0 w : World} {v u : Value} {xs : List Int} {l : List UInt8} (h : Two w0 w v xs u l) : ∃ A n cap, u = .slice A n cap ∧ Bytes w A n l := by
  rcases h.2.1.2 with ⟨e, e0⟩ | ⟨g, cap, cur, e, _, hh, _, _, _, ht⟩
  · exact ⟨none, 0, 0, e, e0, fun j hj => by omega⟩
  · refine ⟨_, _, cap, e, rfl, fun j hj => ⟨g, 0, rfl, ?_⟩⟩
    have hc : cur[j]? = some (.int .u8 ((l.getD j 0).toNat : Int)) := by
      have e1 := congrArg (fun l : List Value => l[j]?) ht
      simp only [Nat.mul_one, List.getElem?_take, if_pos hj, Array.getElem?_toList, cellsOfBytes, List.getElem?_map] at e1
      rw [e1, List.getElem?_eq_getElem (by omega), List.getD_eq_getElem?_getD, List.getElem?_eq_getElem (by omega)]
      rfl
    rw [Nat.zero_add]
    simp [World.cell?, hh, hc]

theorem wpList_push_out {ops : Array Oper} {rest : List Oper} {o : Oper} {a : Act} {Q : Exit → Act → World → Prop} (hgd : o.guard = none) (s x : Operand)
    (ho : o.op = .call { callee := .builtin .append, args := #[s, x], argTypes := #[22, 22] })
    (w0 w : World) (v u : Value) (xs : List Int) (l : List UInt8) (z : Int) (hs : a.eval s = v) (hx : a.eval x = .slice (some ⟨w.heap.size, 0, none⟩) 1 1) (h2 : Two w0 w v xs u l) (hl : xs.length ≤ 100000)
    (h : ∀ v' w1, Two w0 w1 v' (xs ++ [z]) u l → wpList Tryd.prog ops Q rest (a.put o.dst v') w1) : wpList Tryd.prog ops Q (o :: rest) a (w.alloc (.cells #[.int .i32 z] 21)) := by
  obtain ⟨i0, hi, hz0, hz1, hz2⟩ := info_parts Tryd.infoRune
  have hsz := h2.2.2.size
  have h3 := h2.alloc (.cells #[.int .i32 z] 21)
  refine wpList_append_own _ hgd s x 22 ho w0.heap.size 21 i0 (.int .i32 0) 1 4 Tryd.underlying22 hi hz0 hz1 hz2 rfl (by decide) v xs.length (xs.map (Value.int .i32)) hs h3.1 ⟨w.heap.size, 0, none⟩ 1 1 [.int .i32 z] hx rfl ?_ ?_ ?_ ?_ ?_ ?_
  · intro j u hj
    match j, hj with
    | 0, hj => simp at hj; subst hj; simp [Addr.add]
  · intro u hu; simp at hu; subst hu; rfl
  · unfold maxLen; omega
  · omega
  · simp; omega
  · intro v' w1 hown hgrow _
    exact h v' w1 ⟨by simpa using hown, h3.2.1.kept hgrow h3.apart', h3.2.2.grown hgrow (by simp; omega) (fun k hk => (h3.1.lt k hk).1)⟩
theorem wpList_push_kept {ops : Array Oper} {rest : List Oper} {o : Oper} {a : Act} {Q : Exit → Act → World → Prop} (hgd : o.guard = none) (s x : Operand)
    (ho : o.op = .call { callee := .builtin .append, args := #[s, x], argTypes := #[60, 60] })
    (w0 w : World) (v u : Value) (xs : List Int) (l : List UInt8) (b : UInt8) (hs : a.eval s = u) (hx : a.eval x = .slice (some ⟨w.heap.size, 0, none⟩) 1 1) (h2 : Two w0 w v xs u l) (hl : l.length ≤ 100000)
    (h : ∀ u' w1, Two w0 w1 v xs u' (l ++ [b]) → wpList Tryd.prog ops Q rest (a.put o.dst u') w1) : wpList Tryd.prog ops Q (o :: rest) a (w.alloc (.cells #[.int .u8 (b.toNat : Int)] 5)) := by
  obtain ⟨i0, hi, hz0, hz1, hz2⟩ := info_parts Tryd.infoByte
  have hsz := h2.2.2.size
  have h3 := h2.alloc (.cells #[.int .u8 (b.toNat : Int)] 5)
  refine wpList_append_own _ hgd s x 60 ho w0.heap.size 5 i0 (.int .u8 0) 1 1 Tryd.underlying60 hi hz0 hz1 hz2 rfl (by decide) u l.length (cellsOfBytes l) hs h3.2.1 ⟨w.heap.size, 0, none⟩ 1 1 [.int .u8 (b.toNat : Int)] hx rfl ?_ ?_ ?_ ?_ ?_ ?_
  · intro j u hj
    match j, hj with
    | 0, hj => simp at hj; subst hj; simp [Addr.add]
  · intro u hu; simp at hu; subst hu; rfl
  · unfold maxLen; omega
  · omega
  · simp; omega
  · intro v' w1 hown hgrow _
    exact h v' w1 ⟨h3.1.kept hgrow h3.apart, by simpa [cellsOfBytes] using hown, h3.2.2.grown hgrow (by simp; omega) (fun k hk => (h3.2.1.lt k hk).1)⟩

theorem push_bytes (l : List UInt8) : ∀ s : ByteArray, (l.map fun c => (c.toNat : Int)).foldl (fun r n => r.push (UInt8.ofNat n.toNat)) s = ⟨(s.data.toList ++ l).toArray⟩ := by
  induction l with
  | nil => intro s; cases s; simp
  | cons a l ih =>
    intro s
    rw [List.map_cons, List.foldl_cons, ih]
    simp
theorem run_bytes_string (W : World) (A : Option Addr) (n c : Nat) (l : List UInt8) (h : Bytes W A n l) : (convert 60 9 (.slice A n c)).run Tryd.prog W = .ok (.string ⟨l.toArray⟩) W := by
  rw [run_convert_bytes_string W 60 9 5 A n c Tryd.underlying60 Tryd.underlying5 Tryd.underlying9]
  cases A with
  | none =>
    have hl : l = [] := by
      rcases Nat.eq_zero_or_pos n with h0 | h0
      · exact List.eq_nil_of_length_eq_zero (h.1.trans h0)
      · obtain ⟨b, off, e, _⟩ := h.2 0 h0; cases e
    subst hl
    rfl
  | some ad =>
    have hc : ∀ j, j < n → W.cell? (ad.add j) = some (.int .u8 ((l.getD j 0).toNat : Int)) := fun j hj => by
      obtain ⟨b, off, e, hc⟩ := h.2 j hj
      injection e with e
      subst e
      by_cases h0 : j = 0
      · subst h0; simpa [Addr.add] using hc
      · simpa [Addr.add, h0] using hc
    have hload := run_loadCells (P := Tryd.prog) W ad n (fun j => .int .u8 ((l.getD j 0).toNat : Int)) hc
    have e : (List.range n).map (fun j => Value.int .u8 ((l.getD j 0).toNat : Int)) = (l.map fun c => (c.toNat : Int)).map (Value.int .u8) := by
      apply List.ext_getElem
      · simp [h.1]
      · intro i h1 h2
        simp at h1 h2
        simp [h2]
    rw [e] at hload
    rw [run_bytesToString W ad n c (l.map fun c => (c.toNat : Int)) hload, push_bytes]
    simp

end Go.Proofs.YtjoaaehfplcanaaDoor
