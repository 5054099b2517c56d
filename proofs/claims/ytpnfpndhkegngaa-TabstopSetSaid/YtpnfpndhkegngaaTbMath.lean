/-
  Plain mathematics of layer 9: tab stops as lists of truth values, the next and the previous tab stop, the default ones (no program here).
-/
import Derived.Test.YtpnfpndhkegngaaRows
namespace Go.Proofs.Ytpnfpndhkegngaa
namespace Tb

/-- There is a tab stop at column i. -/
abbrev on (l : List Bool) (i : Nat) : Bool := l.getD i false
theorem on_lt {l : List Bool} {i : Nat} (h : on l i = true) : i < l.length := by
  rcases Nat.lt_or_ge i l.length with h1 | h1
  · exact h1
  · unfold on at h
    rw [List.getD_eq_getElem?_getD, List.getElem?_eq_none h1] at h
    cases h
theorem on_ge {l : List Bool} {i : Nat} (h : l.length ≤ i) : on l i = false := by
  unfold on
  rw [List.getD_eq_getElem?_getD, List.getElem?_eq_none h]
  rfl
/-- r is the column of the next tab stop. -/
def IsNext (l : List Bool) (c : Int) (r : Nat) : Prop :=
  (c < (r : Int) ∧ on l r = true ∧ ∀ i : Nat, c < (i : Int) → i < r → on l i = false) ∨ ((∀ i : Nat, c < (i : Int) → on l i = false) ∧ r = l.length - 1)
/-- r is the column of the previous tab stop. -/
def IsPrev (l : List Bool) (c : Int) (r : Nat) : Prop :=
  ((r : Int) < c ∧ on l r = true ∧ ∀ i : Nat, r < i → (i : Int) < c → on l i = false) ∨ ((∀ i : Nat, (i : Int) < c → on l i = false) ∧ r = 0)

theorem IsNext.one {l : List Bool} {c : Int} {r s : Nat} (h1 : IsNext l c r) (h2 : IsNext l c s) : r = s := by
  rcases h1 with ⟨a1, b1, c1⟩ | ⟨a1, b1⟩ <;> rcases h2 with ⟨a2, b2, c2⟩ | ⟨a2, b2⟩
  · rcases Nat.lt_trichotomy r s with h | h | h
    · have := c2 r a1 h; rw [b1] at this; cases this
    · exact h
    · have := c1 s a2 h; rw [b2] at this; cases this
  · have := a2 r a1; rw [b1] at this; cases this
  · have := a1 s a2; rw [b2] at this; cases this
  · rw [b1, b2]
theorem IsPrev.one {l : List Bool} {c : Int} {r s : Nat} (h1 : IsPrev l c r) (h2 : IsPrev l c s) : r = s := by
  rcases h1 with ⟨a1, b1, c1⟩ | ⟨a1, b1⟩ <;> rcases h2 with ⟨a2, b2, c2⟩ | ⟨a2, b2⟩
  · rcases Nat.lt_trichotomy r s with h | h | h
    · have := c1 s h a2; rw [b2] at this; cases this
    · exact h
    · have := c2 r h a1; rw [b1] at this; cases this
  · have := a2 r a1; rw [b1] at this; cases this
  · have := a1 s a2; rw [b2] at this; cases this
  · rw [b1, b2]

/-- What is known of Next from a column before the last one. -/
theorem IsNext.ahead {l : List Bool} {c r : Nat} (h : IsNext l (c : Int) r) (hc : c + 1 < l.length) : c < r ∧ r < l.length ∧ (r + 1 < l.length → on l r = true) ∧ ∀ i, c < i → i < r → on l i = false := by
  rcases h with ⟨h1, h2, h3⟩ | ⟨h1, h2⟩
  · exact ⟨by omega, on_lt h2, fun _ => h2, fun i a b => h3 i (by omega) b⟩
  · exact ⟨by omega, by omega, fun _ => by omega, fun i a _ => h1 i (by omega)⟩
theorem IsNext.last {l : List Bool} {r : Nat} (h : IsNext l ((l.length : Int) - 1) r) : r = l.length - 1 := by
  rcases h with ⟨h1, h2, h3⟩ | ⟨h1, h2⟩
  · have := on_lt h2; omega
  · exact h2
theorem IsPrev.back {l : List Bool} {c r : Nat} (h : IsPrev l (c : Int) r) (hc : 0 < c) : r < c ∧ (0 < r → on l r = true) ∧ ∀ i, r < i → i < c → on l i = false := by
  rcases h with ⟨h1, h2, h3⟩ | ⟨h1, h2⟩
  · exact ⟨by omega, fun _ => h2, fun i a b => h3 i a (by omega)⟩
  · exact ⟨by omega, fun _ => by omega, fun i a b => h1 i (by omega)⟩
theorem IsPrev.first {l : List Bool} {r : Nat} (h : IsPrev l 0 r) : r = 0 := by
  rcases h with ⟨h1, _⟩ | ⟨_, h2⟩
  · omega
  · exact h2
theorem IsPrev.more {l : List Bool} {c d : Int} {r : Nat} (h : IsPrev l c r) (hcd : c ≤ d) (ho : ∀ i : Nat, c ≤ (i : Int) → (i : Int) < d → on l i = false) : IsPrev l d r := by
  rcases h with ⟨h1, h2, h3⟩ | ⟨h1, h2⟩
  · refine .inl ⟨by omega, h2, fun i a b => ?_⟩
    rcases Int.lt_or_le (i : Int) c with h | h
    · exact h3 i a h
    · exact ho i h b
  · refine .inr ⟨fun i b => ?_, h2⟩
    rcases Int.lt_or_le (i : Int) c with h | h
    · exact h1 i h
    · exact ho i h b
/-- Back from the next tab stop, from a tab stop. -/
theorem back_on {l : List Bool} {c n r : Nat} (hn : IsNext l (c : Int) n) (hc : c + 1 < l.length) (ho : on l c = true) (hp : IsPrev l (n : Int) r) : r = c := by
  have ha := hn.ahead hc
  refine hp.one (.inl ⟨by omega, ho, fun i a b => ?_⟩)
  exact ha.2.2.2 i a (by omega)
/-- Back from the next tab stop, from a column without one. -/
theorem back_off {l : List Bool} {c n r s : Nat} (hn : IsNext l (c : Int) n) (hc : c + 1 < l.length) (ho : on l c = false) (hp : IsPrev l (n : Int) r) (hq : IsPrev l (c : Int) s) : r = s := by
  have ha := hn.ahead hc
  refine hp.one ?_
  rcases hq with ⟨h1, h2, h3⟩ | ⟨h1, h2⟩
  · refine .inl ⟨by omega, h2, fun i a b => ?_⟩
    rcases Nat.lt_trichotomy i c with h | h | h
    · exact h3 i a (by omega)
    · rw [h]; exact ho
    · exact ha.2.2.2 i h (by omega)
  · refine .inr ⟨fun i b => ?_, h2⟩
    rcases Nat.lt_trichotomy i c with h | h | h
    · exact h1 i (by omega)
    · rw [h]; exact ho
    · exact ha.2.2.2 i h (by omega)

/-- The default tab stops. -/
def deflt (n : Nat) : List Bool := (List.range n).map (fun i => i % 8 == 0)
theorem deflt_length (n : Nat) : (deflt n).length = n := by simp [deflt]
theorem deflt_succ (n : Nat) : deflt (n + 1) = deflt n ++ [n % 8 == 0] := by simp [deflt, List.range_succ]
/-- How many columns a width has. -/
def lim (w : Int) : Nat := (min (max w 0) 1000).toNat
theorem lim_le (w : Int) : lim w ≤ 1000 := by unfold lim; omega
theorem lim_of (n : Nat) (h : n ≤ 1000) : lim (n : Int) = n := by unfold lim; omega
/-- The tab stops for another width. -/
def fit (l : List Bool) (n : Nat) : List Bool := (List.range n).map (fun i => l.getD i (i % 8 == 0))
theorem fit_length (l : List Bool) (n : Nat) : (fit l n).length = n := by simp [fit]
theorem fit_succ (l : List Bool) (n : Nat) : fit l (n + 1) = fit l n ++ [l.getD n (n % 8 == 0)] := by simp [fit, List.range_succ]
theorem fit_nil (n : Nat) : fit [] n = deflt n := by simp [fit, deflt]
theorem fit_at (l : List Bool) (n i : Nat) (h : i < n) : on (fit l n) i = l.getD i (i % 8 == 0) := by
  unfold on fit
  simp [h]
/-- Resize copies: what stands in the new list. -/
theorem fit_copy (l : List Bool) (n : Nat) : l.take (Nat.min l.length n) ++ (deflt n).drop (Nat.min l.length n) = fit l n := by
  apply List.ext_getElem?
  intro i
  have hm : Nat.min l.length n ≤ l.length := Nat.min_le_left _ _
  have hm2 : Nat.min l.length n ≤ n := Nat.min_le_right _ _
  rcases Nat.lt_or_ge i (Nat.min l.length n) with h | h
  · rw [List.getElem?_append_left (by rw [List.length_take]; omega), List.getElem?_take, if_pos h]
    have hi : i < n := by omega
    have hi2 : i < l.length := by omega
    simp [fit, hi, hi2]
  · have e : (l.take (Nat.min l.length n)).length = Nat.min l.length n := by rw [List.length_take]; omega
    rw [List.getElem?_append_right (by rw [e]; exact h), e, List.getElem?_drop, Nat.add_sub_cancel' h]
    rcases Nat.lt_or_ge i n with hi | hi
    · have hge : l.length ≤ i := by
        rcases Nat.le_total l.length n with h2 | h2
        · have : Nat.min l.length n = l.length := Nat.min_eq_left h2
          omega
        · have : Nat.min l.length n = n := Nat.min_eq_right h2
          omega
      simp [fit, deflt, hi, hge]
    · have : ¬ i < n := by omega
      simp [fit, deflt, this]

/-- Set. -/
def put (l : List Bool) (c : Int) (b : Bool) : List Bool := if 0 ≤ c ∧ c < (l.length : Int) then l.set c.toNat b else l
theorem put_length (l : List Bool) (c : Int) (b : Bool) : (put l c b).length = l.length := by
  unfold put
  split
  · exact List.length_set
  · rfl
theorem put_of (l : List Bool) (c : Nat) (b : Bool) (h : c < l.length) : put l (c : Int) b = l.set c b := by
  unfold put
  rw [if_pos ⟨by omega, by omega⟩, Int.toNat_natCast]
theorem put_on (l : List Bool) (c : Nat) (b : Bool) (h : c < l.length) : on (put l (c : Int) b) c = b := by
  rw [put_of l c b h]
  unfold on
  simp [h]
theorem put_twice (l : List Bool) (c : Nat) (b : Bool) (h : c < l.length) : put (put l (c : Int) b) (c : Int) b = put l (c : Int) b := by
  rw [put_of _ c b (by rw [put_length]; exact h), put_of l c b h, List.set_set]
theorem put_undo (l : List Bool) (c : Nat) (b : Bool) (h : c < l.length) : put (put l (c : Int) b) (c : Int) (on l c) = l := by
  rw [put_of _ c _ (by rw [put_length]; exact h), put_of l c b h, List.set_set]
  apply List.ext_getElem?
  intro i
  by_cases e : c = i
  · subst e
    rw [List.getElem?_set_self h]
    unfold on
    rw [List.getD_eq_getElem?_getD, List.getElem?_eq_getElem h]
    rfl
  · rw [List.getElem?_set_ne e]
/-- The first k columns without a tab stop. -/
def clr (l : List Bool) (k : Nat) : List Bool := List.replicate k false ++ l.drop k
theorem clr_zero (l : List Bool) : clr l 0 = l := by simp [clr]
theorem clr_length (l : List Bool) (k : Nat) (h : k ≤ l.length) : (clr l k).length = l.length := by simp [clr]; omega
theorem clr_succ (l : List Bool) (k : Nat) (h : k < l.length) : put (clr l k) (k : Int) false = clr l (k + 1) := by
  rw [put_of _ k _ (by rw [clr_length l k (by omega)]; exact h)]
  unfold clr
  rw [List.set_append_right _ _ (by simp), List.length_replicate, Nat.sub_self, List.drop_eq_getElem_cons h, List.set_cons_zero, List.replicate_succ']
  simp
theorem clr_all (l : List Bool) (i : Nat) : on (clr l l.length) i = false := by
  unfold clr on
  rw [List.drop_length, List.append_nil, List.getD_eq_getElem?_getD]
  rcases Nat.lt_or_ge i l.length with h | h
  · simp [h]
  · simp [Nat.not_lt.2 h]
theorem clr_next (l : List Bool) (c : Int) {r : Nat} (h : IsNext (clr l l.length) c r) : r = l.length - 1 := by
  rcases h with ⟨_, h2, _⟩ | ⟨_, h2⟩
  · rw [clr_all] at h2; cases h2
  · rw [h2, clr_length l _ (Nat.le_refl _)]
theorem clr_prev (l : List Bool) (c : Int) {r : Nat} (h : IsPrev (clr l l.length) c r) : r = 0 := by
  rcases h with ⟨_, h2, _⟩ | ⟨_, h2⟩
  · rw [clr_all] at h2; cases h2
  · exact h2

/-- The example of the chapter. -/
theorem on20 : ∀ i : Nat, on (deflt 20) i = true ↔ i = 0 ∨ i = 8 ∨ i = 16 := by
  intro i
  constructor
  · intro h
    have hl := on_lt h
    rw [deflt_length] at hl
    have key : ∀ j : Fin 20, on (deflt 20) j.1 = true → j.1 = 0 ∨ j.1 = 8 ∨ j.1 = 16 := by decide
    exact key ⟨i, hl⟩ h
  · rintro (rfl | rfl | rfl) <;> decide
theorem off20 (i : Nat) (h : i ≠ 0 ∧ i ≠ 8 ∧ i ≠ 16) : on (deflt 20) i = false := by
  cases e : on (deflt 20) i with
  | false => rfl
  | true => have := (on20 i).1 e; omega
theorem next0 {r : Nat} (h : IsNext (deflt 20) 0 r) : r = 8 := h.one (.inl ⟨by omega, by decide, fun i a b => off20 i (by omega)⟩)
theorem next8 {r : Nat} (h : IsNext (deflt 20) 8 r) : r = 16 := h.one (.inl ⟨by omega, by decide, fun i a b => off20 i (by omega)⟩)
theorem next16 {r : Nat} (h : IsNext (deflt 20) 16 r) : r = 19 := h.one (.inr ⟨fun i a => off20 i (by omega), by decide⟩)
theorem prev16 {r : Nat} (h : IsPrev (deflt 20) 16 r) : r = 8 := h.one (.inl ⟨by omega, by decide, fun i a b => off20 i (by omega)⟩)

end Tb
end Go.Proofs.Ytpnfpndhkegngaa
