/-
  More of the plain mathematics of layer 5: parameter bytes alone, joined, with a marker and an intermediate byte; strings that are no body; the canonical form. No program in this text.
-/
import Derived.Test.YtihfjkjbeeoanaaDoorCpMath
namespace Go.Proofs.YtihfjkjbeeoanaaDoor.Cp

theorem dropWhile_nil {p : UInt8 → Bool} (l : List UInt8) : l.dropWhile p = [] ↔ l.all p = true := by
  induction l with
  | nil => simp
  | cons b r ih =>
    cases h : p b
    · simp [h]
    · simp only [List.dropWhile_cons, h, if_true, List.all_cons, Bool.true_and]
      exact ih
theorem dropWhile_head {p : UInt8 → Bool} (l : List UInt8) (b : UInt8) (r : List UInt8) (h : l.dropWhile p = b :: r) : p b = false := by
  induction l with
  | nil => simp at h
  | cons x t ih =>
    cases hx : p x
    · simp [hx] at h
      rw [← h.1]; exact hx
    · simp [hx] at h
      exact ih h
/-- Nothing is left of a string that is trimmed exactly if it consists of parameter bytes. -/
theorem trim_nil (l : List UInt8) : Lib.trimS l [48, 49, 50, 51, 52, 53, 54, 55, 56, 57, 59] = [] ↔ l.all isPar = true := by
  have e : (fun b : UInt8 => ([48, 49, 50, 51, 52, 53, 54, 55, 56, 57, 59] : List UInt8).contains b) = isPar := by
    funext b
    exact (isPar_cut b).symm
  unfold Lib.trimS Lib.trimLeftS Lib.trimRightS
  rw [e, dropWhile_nil, List.all_reverse]
  constructor
  · intro h
    cases hd : l.reverse.dropWhile isPar with
    | nil =>
      have := (dropWhile_nil l.reverse).1 hd
      rw [List.all_reverse] at this
      exact this
    | cons b r =>
      have hb := dropWhile_head _ b r hd
      rw [hd, List.all_cons, hb] at h
      simp at h
  · intro h
    have := (dropWhile_nil (p := isPar) l.reverse).2 (by rw [List.all_reverse]; exact h)
    rw [this]
    rfl

/-- Parameter bytes alone. -/
theorem parse_par (l : List UInt8) (h : l.all isPar = true) : parse l = if over (vals l) [] then (0, [], [], 5) else (0, vals l, [], 0) := by
  obtain ⟨e1, e2, e3⟩ := parts 0 l [] (.inl rfl) h rfl
  have e : hd 0 ++ l ++ [] = l := by simp [hd]
  rw [e] at e1 e2 e3
  unfold parse
  rw [e1, e2, e3]
  rfl
theorem parse_par_err (l : List UInt8) (h : l.all isPar = true) : (parse l).2.2.2 = 0 ∨ (parse l).2.2.2 = 5 := by
  rw [parse_par l h]
  split
  · exact .inr rfl
  · exact .inl rfl
/-- A marker in front and an intermediate byte at the end. -/
theorem parse_marked (c i : UInt8) (l : List UInt8) (hc : isMk c = true) (hi : isMid i = true) (h : l.all isPar = true) :
    parse (c :: l ++ [i]) = if over (vals l) [] then (0, [], [], 5) else (c, vals l, [i], 0) := by
  obtain ⟨e1, e2, e3⟩ := parts c l [i] (.inr hc) h (by simp [hi])
  have e : hd c ++ l ++ [i] = c :: l ++ [i] := by simp [hd, mk_not_zero c hc]
  rw [e] at e1 e2 e3
  unfold parse
  rw [e1, e2, e3]
  have e4 : ([i] : List UInt8).all isMid = true := by simp [hi]
  have e5 : over (vals l) [i] = over (vals l) [] := by simp [over]
  rw [e4, e5]
  rfl
/-- The parameters of bytes that are followed or preceded by a semicolon: an empty part is one absent parameter. -/
def part (l : List UInt8) : List Int := vs (-1) l
theorem part_vals (l : List UInt8) : part l = if l = [] then [-1] else vals l := by
  unfold part vals
  split
  · rename_i h; subst h; rfl
  · rfl
theorem join_par (a b : List UInt8) (ha : a.all isPar = true) (hb : b.all isPar = true) : (a ++ 59 :: b).all isPar = true ∧ vals (a ++ 59 :: b) = part a ++ part b := by
  refine ⟨by rw [List.all_append, List.all_cons, ha, hb]; rfl, ?_⟩
  unfold vals part
  rw [if_neg (by simp), vs_join]
theorem over_part (l : List UInt8) : over (vals l) [] = over (part l) [] := by
  rw [part_vals]
  split
  · rename_i h; subst h; rfl
  · rfl
theorem over_app (a b : List Int) : over (a ++ b) [] = (over a [] || over b [] || decide (16 < a.length + b.length)) := by
  unfold over
  rw [List.any_append, List.length_append]
  by_cases h1 : 16 < a.length <;> by_cases h2 : 16 < b.length <;> by_cases h3 : 16 < a.length + b.length <;> simp [h1, h2, h3] <;> omega
/-- A string with a byte that is no part of a body, or with another byte behind an intermediate byte, is no body. -/
theorem parse_bad (a y : List UInt8) (x : UInt8) (hm : isMk x = false) (hp : isPar x = false) (hy : (x :: y).all isMid = false) : parse (a ++ x :: y) = (0, [], [], 3) := by
  have key : ∀ t : List UInt8, ((t ++ x :: y).dropWhile isPar).all isMid = false := by
    intro t
    induction t with
    | nil => simpa [hp] using hy
    | cons b r ih =>
      cases h : isPar b
      · rw [List.cons_append, List.dropWhile_cons]
        simp only [h, Bool.false_eq_true, if_false]
        rw [← List.cons_append, List.all_append, hy, Bool.and_false]
      · rw [List.cons_append, List.dropWhile_cons]
        simp only [h, if_true]
        exact ih
  have e : ∃ t, tl (a ++ x :: y) = t ++ x :: y := by
    cases a with
    | nil => exact ⟨[], by simp [tl, hm]⟩
    | cons b r =>
      cases h : isMk b
      · exact ⟨b :: r, by simp [tl, h]⟩
      · exact ⟨r, by simp [tl, h]⟩
  obtain ⟨t, e⟩ := e
  have h1 : (mid (a ++ x :: y)).all isMid = false := by unfold mid; rw [e]; exact key t
  unfold parse
  rw [h1]
  rfl

/-! ### The canonical form -/

/-- t is not longer than x, and is x if it is as long. -/
def Can (t x : List UInt8) : Prop := t.length ≤ x.length ∧ (t.length = x.length → t = x)
theorem Can.refl (x : List UInt8) : Can x x := ⟨Nat.le_refl _, fun _ => rfl⟩
theorem Can.append {t x t' x' : List UInt8} (h : Can t x) (h' : Can t' x') : Can (t ++ t') (x ++ x') := by
  refine ⟨by have := h.1; have := h'.1; simp; omega, fun e => ?_⟩
  simp at e
  have h1 := h.1
  have h2 := h'.1
  rw [h.2 (by omega), h'.2 (by omega)]
theorem vs_over (v : Int) (l : List UInt8) (h : 9999 < v) : (vs v l).any (fun z => decide (9999 < z)) = true ∨ l.all isPar = false := by
  induction l generalizing v with
  | nil => left; simp [vs]; omega
  | cons b r ih =>
    by_cases h59 : b = 59
    · left
      rw [vs, if_pos h59, List.any_cons]
      simp [h]
    · cases hp : isPar b
      · right
        simp [hp]
      · rw [vs, if_neg h59]
        have hb := par_digit b hp h59
        have hd : 9999 < dg v b := by unfold dg; omega
        rcases ih (dg v b) hd with h1 | h1
        · exact .inl h1
        · right
          simp only [List.all_cons, h1, Bool.and_false]
theorem can_vs (v : Int) (u l : List UInt8) (hv : -1 ≤ v ∧ v ≤ 9999) (hl : l.all isPar = true) (h9 : (vs v l).any (fun z => decide (9999 < z)) = false) (hc : Can (num v) u) : Can (bd false (vs v l)) (u ++ l) := by
  induction l generalizing v u with
  | nil => simpa [vs, bd] using hc
  | cons b r ih =>
    rw [List.all_cons, Bool.and_eq_true] at hl
    by_cases h59 : b = 59
    · subst h59
      rw [vs, if_pos rfl] at h9 ⊢
      rw [List.any_cons, Bool.or_eq_false_iff] at h9
      have h1 := ih (-1) [] (by omega) hl.2 h9.2 (Can.refl _)
      rw [List.nil_append] at h1
      obtain ⟨m, t, hm⟩ : ∃ m t, vs (-1) r = m :: t := by
        cases h : vs (-1) r with
        | nil => exact absurd h (vs_ne _ _)
        | cons m t => exact ⟨m, t, rfl⟩
      have e : bd false (v :: vs (-1) r) = num v ++ ([59] ++ bd false (vs (-1) r)) := by rw [hm]; simp [bd]
      rw [e]
      exact hc.append ((Can.refl [59]).append h1)
    · have hd := par_digit b hl.1 h59
      rw [vs, if_neg h59] at h9 ⊢
      have hle : dg v b ≤ 9999 := by
        rcases Int.lt_or_le 9999 (dg v b) with h | h
        · rcases vs_over _ r h with h1 | h1
          · rw [h1] at h9; cases h9
          · rw [hl.2] at h1; cases h1
        · exact h
      have hge := dg_ge v b hd.1
      have e : u ++ b :: r = (u ++ [b]) ++ r := by simp
      rw [e]
      refine ih (dg v b) (u ++ [b]) (by omega) hl.2 h9 ?_
      have hb := digit_back b hd.1
      by_cases h0 : v ≤ 0
      · have e1 : dg v b = ((b.toNat - 48 : Nat) : Int) := by unfold dg; omega
        have e2 : num (dg v b) = [b] := by
          unfold num
          rw [if_neg (by omega), e1, itoa_digit _ (by omega), hb]
        rw [e2]
        refine ⟨by simp, fun e => ?_⟩
        simp at e
        rw [e]
        rfl
      · obtain ⟨k, rfl⟩ : ∃ k : Nat, v = k := ⟨v.toNat, by omega⟩
        have e1 : dg (k : Int) b = ((10 * k + (b.toNat - 48) : Nat) : Int) := by
          unfold dg at hle ⊢
          omega
        have e2 : num (dg (k : Int) b) = num (k : Int) ++ [b] := by
          unfold num
          rw [if_neg (by omega), if_neg (by omega), e1, itoa_more k _ (by omega) (by omega), hb]
        rw [e2]
        exact hc.append (Can.refl [b])
theorem can_vals (l : List UInt8) (hl : l.all isPar = true) (h9 : (vals l).any (fun z => decide (9999 < z)) = false) : Can (bd false (vals l)) l := by
  unfold vals at h9 ⊢
  split
  · rename_i h; subst h; exact Can.refl _
  · rename_i h
    rw [if_neg h] at h9
    exact can_vs (-1) [] l (by omega) hl h9 (Can.refl _)
theorem vs_ge (v : Int) (l : List UInt8) (hv : -1 ≤ v) (hl : l.all isPar = true) : ∀ z ∈ vs v l, -1 ≤ z := by
  induction l generalizing v with
  | nil => simp [vs]; exact hv
  | cons b r ih =>
    rw [List.all_cons, Bool.and_eq_true] at hl
    by_cases h59 : b = 59
    · rw [vs, if_pos h59]
      intro z hz
      rw [List.mem_cons] at hz
      rcases hz with rfl | hz
      · exact hv
      · exact ih (-1) (by omega) hl.2 z hz
    · rw [vs, if_neg h59]
      have := dg_ge v b (par_digit b hl.1 h59).1
      exact ih _ (by omega) hl.2
/-- A single absent parameter is not among what is parsed. -/
theorem vs_one (v : Int) (l : List UInt8) (hl : l.all isPar = true) (hn : l ≠ [] ∨ 0 ≤ v) (h : vs v l = [-1]) : False := by
  induction l generalizing v with
  | nil =>
    simp [vs] at h
    rcases hn with hn | hn
    · exact hn rfl
    · omega
  | cons b r ih =>
    rw [List.all_cons, Bool.and_eq_true] at hl
    by_cases h59 : b = 59
    · rw [vs, if_pos h59] at h
      injection h with _ h2
      exact vs_ne _ _ h2
    · rw [vs, if_neg h59] at h
      exact ih _ hl.2 (.inr (dg_ge v b (par_digit b hl.1 h59).1)) h
theorem has_vals (l : List UInt8) (hl : l.all isPar = true) : has (vals l) = true := by
  by_cases h0 : l = []
  · subst h0; rfl
  · have hge : ∀ z ∈ vals l, -1 ≤ z := by unfold vals; rw [if_neg h0]; exact vs_ge _ _ (by omega) hl
    have hne : vals l ≠ [-1] := by
      unfold vals
      rw [if_neg h0]
      exact fun e => vs_one _ _ hl (.inl h0) e
    unfold has
    split
    · rename_i h1
      cases hv : vals l with
      | nil => rw [hv] at h1; simp at h1
      | cons x t =>
        rw [hv] at h1
        have ht : t = [] := List.eq_nil_of_length_eq_zero (by simpa using h1)
        subst ht
        rw [hv] at hge hne
        have := hge x (by simp)
        simp at hne ⊢
        omega
    · simp only [Bool.not_eq_true', List.any_eq_false, decide_eq_true_eq]
      intro z hz
      have := hge z hz
      omega
/-- What is parsed can be formatted, and is then parsed as the same. -/
theorem fmt_parse {l : List UInt8} {p : UInt8} {ps : List Int} {i : List UInt8} (h : parse l = (p, ps, i, 0)) :
    ∃ t, fmt p ps i = (t, 0) ∧ parse t = (p, ps, i, 0) ∧ Can t l := by
  unfold parse at h
  by_cases h1 : (mid l).all isMid = true
  · rw [if_pos h1] at h
    by_cases h2 : over (vals (par l)) (mid l) = true
    · rw [if_pos h2] at h
      injection h with _ e
      injection e with _ e
      injection e with _ e
      cases e
    · rw [if_neg h2] at h
      rw [Bool.not_eq_true] at h2
      injection h with e1 e
      injection e with e2 e
      injection e with e3 _
      subst e1 e2 e3
      have hpa := par_all l
      have hmk : mk l = 0 ∨ isMk (mk l) = true := by
        cases l with
        | nil => exact .inl rfl
        | cons b r =>
          cases hb : isMk b
          · exact .inl (by simp [mk, hb])
          · exact .inr (by simp [mk, hb])
      have hbad : bad (mk l) (vals (par l)) (mid l) = false := by
        unfold bad
        rw [h1, has_vals _ hpa]
        rcases hmk with h | h
        · rw [h]; rfl
        · rw [h]; simp
      have hf : fmt (mk l) (vals (par l)) (mid l) = (hd (mk l) ++ bd false (vals (par l)) ++ mid l, 0) := by
        unfold fmt
        rw [hbad, h2]
        rfl
      refine ⟨_, hf, ?_, ?_⟩
      · have := parse_fmt (p := mk l) (ps := vals (par l)) (i := mid l) (by rw [hf])
        rw [hf] at this
        exact this
      · have h9 : (vals (par l)).any (fun z => decide (9999 < z)) = false := by
          unfold over at h2
          rw [Bool.or_eq_false_iff] at h2
          exact h2.2
        have hc := ((Can.refl (hd (mk l))).append (can_vals _ hpa h9)).append (Can.refl (mid l))
        have e : hd (mk l) ++ par l ++ mid l = l := by rw [List.append_assoc, par_mid, hd_tl]
        rw [e] at hc
        exact hc
  · rw [if_neg h1] at h
    injection h with _ e
    injection e with _ e
    injection e with _ e
    cases e
theorem parse_err {l : List UInt8} {p : UInt8} {ps : List Int} {i : List UInt8} {er : Int} (h : parse l = (p, ps, i, er)) (he : er ≠ 0) : p = 0 ∧ ps = [] ∧ i = [] := by
  unfold parse at h
  split at h
  · split at h
    · injection h with e1 e
      injection e with e2 e
      injection e with e3 _
      exact ⟨e1.symm, e2.symm, e3.symm⟩
    · injection h with _ e
      injection e with _ e
      injection e with _ e
      exact absurd e.symm he
  · injection h with e1 e
    injection e with e2 e
    injection e with e3 _
    exact ⟨e1.symm, e2.symm, e3.symm⟩
theorem parse_len {l : List UInt8} {p : UInt8} {ps : List Int} {i : List UInt8} (h : parse l = (p, ps, i, 0)) : ps.length ≤ 16 ∧ i.length ≤ 2 ∧ ∀ z ∈ ps, -1 ≤ z ∧ z ≤ 9999 := by
  obtain ⟨t, hf, _⟩ := fmt_parse h
  obtain ⟨hb, ho, _⟩ := fmt_ok (p := p) (ps := ps) (i := i) (by rw [hf])
  obtain ⟨h1, h2, h3⟩ := over_le ho
  obtain ⟨_, _, hh⟩ := bad_parts hb
  exact ⟨h1, h2, fun z hz => ⟨has_ge hh z hz, h3 z hz⟩⟩

end Go.Proofs.YtihfjkjbeeoanaaDoor.Cp
