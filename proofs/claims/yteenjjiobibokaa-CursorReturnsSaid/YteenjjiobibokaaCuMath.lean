/-
  Plain mathematics of layer 10: bounds, limits, and where the movements of a cursor lead (no program here).
-/
import Derived.Test.YteenjjiobibokaaRows
namespace Go.Proofs.Yteenjjiobibokaa
namespace Cu

/-- The bounds are proper. -/
def Ok (W H T E : Int) : Prop := 1 ≤ W ∧ W ≤ 132 ∧ 1 ≤ H ∧ H ≤ 60 ∧ 0 ≤ T ∧ T < E ∧ E ≤ H
/-- The nearest number of a range. -/
def lim (n a z : Int) : Int := max a (min n z)
theorem lim_ge (n a z : Int) : a ≤ lim n a z := by unfold lim; omega
theorem lim_le (n a z : Int) (h : a ≤ z) : lim n a z ≤ z := by unfold lim; omega
theorem lim_in (n a z : Int) (h : a ≤ n) (h2 : n ≤ z) : lim n a z = n := by unfold lim; omega
/-- The nearest number, as the document's own function finds it. -/
def lim2 (n a z : Int) : Int := if n < a then a else if z < n then z else n
theorem lim2_eq (n a z : Int) (h : a ≤ z) : lim2 n a z = lim n a z := by unfold lim2 lim; split <;> (try split) <;> omega
/-- The row is in the scroll region. -/
def reg (T E r : Int) : Bool := decide (T ≤ r) && decide (r < E)
theorem reg_true {T E r : Int} : reg T E r = true ↔ T ≤ r ∧ r < E := by simp [reg]
theorem reg_false {T E r : Int} : reg T E r = false ↔ ¬ (T ≤ r ∧ r < E) := by
  rw [← reg_true]
  simp
/-- The first and the last row to which a movement up or down from the row r is limited. -/
def fst (T E r : Int) : Int := if reg T E r then T else 0
def lst (H T E r : Int) : Int := if reg T E r then E - 1 else H - 1
/-- The row r, moved up by n. -/
def upRow (H T E r n : Int) : Int := lim (r - n) (fst T E r) (lst H T E r)
/-- The column c, moved right by n. -/
def riCol (W c n : Int) : Int := lim (c + n) 0 (W - 1)
/-- The row and the column of a position. -/
def toRow (H T E : Int) (O : Bool) (x : Int) : Int := if O then lim (T + x - 1) T (E - 1) else lim (x - 1) 0 (H - 1)
def toCol (W x : Int) : Int := lim (x - 1) 0 (W - 1)
/-- Whether a movement by n scrolls. -/
def scr (H T E r n : Int) : Int := if upRow H T E r n = r ∧ reg T E r = true then 1 else 0
/-- Feed and Reverse by the document. -/
def feedRow (H E r : Int) : Int := if r = E - 1 then r else if r < H - 1 then r + 1 else r
def backRow (T r : Int) : Int := if r = T then r else if 0 < r then r - 1 else r

theorem fst_le {W H T E : Int} (h : Ok W H T E) (r : Int) (h0 : 0 ≤ r) (h1 : r ≤ H - 1) : 0 ≤ fst T E r ∧ fst T E r ≤ r ∧ r ≤ lst H T E r ∧ lst H T E r ≤ H - 1 := by
  obtain ⟨_, _, _, _, _, _, _⟩ := h
  unfold fst lst
  cases e : reg T E r with
  | true => have := reg_true.1 e; simp; omega
  | false => simp; omega
theorem up_near {W H T E : Int} (h : Ok W H T E) (r n : Int) (h0 : 0 ≤ r) (h1 : r ≤ H - 1) : lim (r - lim n (-H) H) (fst T E r) (lst H T E r) = upRow H T E r n := by
  obtain ⟨_, _, _, _⟩ := fst_le h r h0 h1
  unfold upRow
  generalize fst T E r = a at *
  generalize lst H T E r = z at *
  unfold lim
  omega
theorem up_far {W H T E : Int} (h : Ok W H T E) (r n : Int) (h0 : 0 ≤ r) (h1 : r ≤ H - 1) : lim (r - lim n (-1000) 1000) (fst T E r) (lst H T E r) = upRow H T E r n := by
  obtain ⟨_, _, _, _⟩ := fst_le h r h0 h1
  obtain ⟨_, _, _, _, _, _, _⟩ := h
  unfold upRow
  generalize fst T E r = a at *
  generalize lst H T E r = z at *
  unfold lim
  omega
theorem up_in {W H T E : Int} (h : Ok W H T E) (r n : Int) (h0 : 0 ≤ r) (h1 : r ≤ H - 1) : 0 ≤ upRow H T E r n ∧ upRow H T E r n ≤ H - 1 := by
  obtain ⟨_, _, _, _⟩ := fst_le h r h0 h1
  unfold upRow
  generalize fst T E r = a at *
  generalize lst H T E r = z at *
  unfold lim
  omega
theorem up_reg {H T E r : Int} (n : Int) (h : reg T E r = true) : T ≤ upRow H T E r n ∧ upRow H T E r n < E := by
  have := reg_true.1 h
  unfold upRow fst lst lim
  rw [h]
  simp
  omega
theorem up_at {H T E r : Int} (n : Int) (h : reg T E r = true) : upRow H T E r n = lim (r - n) T (E - 1) := by
  unfold upRow fst lst
  rw [h]
  rfl
theorem ri_near {W H T E : Int} (_ : Ok W H T E) (c n : Int) (h0 : 0 ≤ c) (h1 : c ≤ W - 1) : lim (c + lim n (-W) W) 0 (W - 1) = riCol W c n := by
  unfold riCol lim
  omega
theorem ri_far {W H T E : Int} (h : Ok W H T E) (c n : Int) (h0 : 0 ≤ c) (h1 : c ≤ W - 1) : lim (c + lim n (-1000) 1000) 0 (W - 1) = riCol W c n := by
  obtain ⟨_, _, _, _, _, _, _⟩ := h
  unfold riCol lim
  omega
theorem ri_in {W H T E : Int} (h : Ok W H T E) (c n : Int) : 0 ≤ riCol W c n ∧ riCol W c n ≤ W - 1 := by
  obtain ⟨_, _, _, _, _, _, _⟩ := h
  unfold riCol lim
  omega
theorem to_in {W H T E : Int} (h : Ok W H T E) (O : Bool) (x : Int) : 0 ≤ toRow H T E O x ∧ toRow H T E O x ≤ H - 1 := by
  obtain ⟨_, _, _, _, _, _, _⟩ := h
  unfold toRow lim
  cases O <;> simp <;> omega
theorem toCol_in {W H T E : Int} (h : Ok W H T E) (x : Int) : 0 ≤ toCol W x ∧ toCol W x ≤ W - 1 := by
  obtain ⟨_, _, _, _, _, _, _⟩ := h
  unfold toCol lim
  omega
theorem toRow_near {W H T E : Int} (h : Ok W H T E) (O : Bool) (x : Int) : lim ((if O then T else 0) + lim x 1 H - 1) (if O then T else 0) (if O then E - 1 else H - 1) = toRow H T E O x := by
  obtain ⟨_, _, _, _, _, _, _⟩ := h
  unfold toRow lim
  cases O <;> simp <;> omega
theorem toCol_near {W H T E : Int} (h : Ok W H T E) (x : Int) : lim x 1 W - 1 = toCol W x := by
  obtain ⟨_, _, _, _, _, _, _⟩ := h
  unfold toCol lim
  omega
theorem toRow_far {W H T E : Int} (h : Ok W H T E) (x : Int) : lim (lim x 1 1000 - 1) 0 (H - 1) = toRow H T E false x := by
  obtain ⟨_, _, _, _, _, _, _⟩ := h
  unfold toRow lim
  simp
  omega
theorem toRow_far2 {W H T E : Int} (h : Ok W H T E) (x : Int) : lim (T + (lim x 1 1000 - 1)) T (E - 1) = toRow H T E true x := by
  obtain ⟨_, _, _, _, _, _, _⟩ := h
  unfold toRow lim
  simp
  omega
theorem toCol_far {W H T E : Int} (h : Ok W H T E) (x : Int) : lim (lim x 1 1000 - 1) 0 (W - 1) = toCol W x := by
  obtain ⟨_, _, _, _, _, _, _⟩ := h
  unfold toCol lim
  omega
theorem feed_up {W H T E : Int} (h : Ok W H T E) (r : Int) (h0 : 0 ≤ r) (h1 : r ≤ H - 1) : upRow H T E r (-1) = feedRow H E r ∧ scr H T E r (-1) = (if r = E - 1 then 1 else 0) := by
  obtain ⟨_, _, _, _, _, _, _⟩ := h
  cases e : reg T E r with
  | true =>
    have hr := reg_true.1 e
    have hu : upRow H T E r (-1) = feedRow H E r := by rw [up_at _ e]; unfold lim feedRow; split <;> (try split) <;> omega
    refine ⟨hu, ?_⟩
    unfold scr
    rw [hu, e]
    unfold feedRow
    by_cases h3 : r = E - 1
    · simp [h3]
    · have h4 : r < H - 1 := by omega
      simp [h3, h4]
      omega
  | false =>
    have hr := reg_false.1 e
    have hu : upRow H T E r (-1) = feedRow H E r := by
      unfold upRow fst lst
      rw [e]
      unfold lim feedRow
      simp
      split <;> (try split) <;> omega
    refine ⟨hu, ?_⟩
    unfold scr
    rw [e]
    have h3 : ¬ r = E - 1 := by omega
    simp [h3]
theorem back_up {W H T E : Int} (h : Ok W H T E) (r : Int) (h0 : 0 ≤ r) (h1 : r ≤ H - 1) : upRow H T E r 1 = backRow T r ∧ scr H T E r 1 = (if r = T then 1 else 0) := by
  obtain ⟨_, _, _, _, _, _, _⟩ := h
  cases e : reg T E r with
  | true =>
    have hr := reg_true.1 e
    have hu : upRow H T E r 1 = backRow T r := by rw [up_at _ e]; unfold lim backRow; split <;> (try split) <;> omega
    refine ⟨hu, ?_⟩
    unfold scr
    rw [hu, e]
    unfold backRow
    by_cases h3 : r = T
    · simp [h3]
    · have h4 : 0 < r := by omega
      simp [h3, h4]
      omega
  | false =>
    have hr := reg_false.1 e
    have hu : upRow H T E r 1 = backRow T r := by
      unfold upRow fst lst
      rw [e]
      unfold lim backRow
      simp
      split <;> (try split) <;> omega
    refine ⟨hu, ?_⟩
    unfold scr
    rw [e]
    have h3 : ¬ r = T := by omega
    simp [h3]
theorem feed_in {W H T E : Int} (h : Ok W H T E) (r : Int) (h0 : 0 ≤ r) (h1 : r ≤ H - 1) : 0 ≤ feedRow H E r ∧ feedRow H E r ≤ H - 1 := by
  obtain ⟨_, _, _, _, _, _, _⟩ := h
  unfold feedRow
  split <;> (try split) <;> omega
theorem back_in {W H T E : Int} (h : Ok W H T E) (r : Int) (h0 : 0 ≤ r) (h1 : r ≤ H - 1) : 0 ≤ backRow T r ∧ backRow T r ≤ H - 1 := by
  obtain ⟨_, _, _, _, _, _, _⟩ := h
  unfold backRow
  split <;> (try split) <;> omega
/-- Two movements in the same direction. -/
theorem up_add {W H T E : Int} (_ : Ok W H T E) (r m n : Int) (hr : reg T E r = true) (h : (0 ≤ m ∧ 0 ≤ n) ∨ (m ≤ 0 ∧ n ≤ 0)) : upRow H T E (upRow H T E r m) n = upRow H T E r (m + n) := by
  have h1 := up_reg (H := H) m hr
  have h2 := reg_true.1 hr
  rw [up_at n (reg_true.2 h1), up_at m hr, up_at (m + n) hr]
  unfold lim
  omega
theorem ri_add {W H T E : Int} (h : Ok W H T E) (c m n : Int) (h0 : 0 ≤ c) (h1 : c ≤ W - 1) (hm : (0 ≤ m ∧ 0 ≤ n) ∨ (m ≤ 0 ∧ n ≤ 0)) : riCol W (riCol W c m) n = riCol W c (m + n) := by
  obtain ⟨_, _, _, _, _, _, _⟩ := h
  unfold riCol lim
  omega

end Cu
end Go.Proofs.Yteenjjiobibokaa
