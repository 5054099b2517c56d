/-
  Plain mathematics of layer 7: cells, proper rows, and what the functions that change a row return, said by lists (no program here).
-/
import Derived.Test.YtcljmmadimldlaaDoorClMore
import Derived.Test.YtcljmmadimldlaaDoorCrCell
namespace Go.Proofs.YtcljmmadimldlaaDoor
namespace Cr

def chk (t : ByteArray) : Nat := Cl.chk t.data.toList
def wd (t : ByteArray) : Int := Cl.widthC t.data.toList
theorem wd_ok {t : ByteArray} (h : chk t = 0) : wd t = 1 ∨ wd t = 2 := by
  have hg := (Cl.good_chk (l := t.data.toList) h)
  obtain ⟨⟨b, ms, he, hb, _, _⟩, _, _⟩ := hg
  have e : wd t = Cw.wd b := by
    have h' : Cl.chk t.data.toList = 0 := h
    unfold wd Cl.widthC Cl.baseOf
    rw [if_pos h', if_pos h', he]
    rfl
  have h1 := (Cl.widthC_bounds t.data.toList).2
  have h2 : 0 < Cw.wd b := of_decide_eq_true hb
  have h3 : wd t ≤ 2 := h1
  rw [e] at h3 ⊢
  omega
theorem sp_ok : chk sp = 0 ∧ wd sp = 1 := by
  have e : sp.data.toList = U8.encL [32] := by decide
  have h := Cl.good_parts (Cl.Good.one Cl.space_base)
  unfold chk wd
  rw [e]
  exact ⟨h.1, by rw [h.2.2.2]; decide⟩

def Narrow (c : C) : Prop := c.w = 1 ∧ chk c.t = 0 ∧ wd c.t = 1
def Wide (c : C) : Prop := c.w = 2 ∧ chk c.t = 0 ∧ wd c.t = 2
theorem blank_narrow (b : Int) : Narrow (blank b) := ⟨rfl, sp_ok.1, sp_ok.2⟩

inductive Pr : List C → Prop
  | nil : Pr []
  | one {c : C} {l : List C} : Narrow c → Pr l → Pr (c :: l)
  | pair {c : C} {l : List C} : Wide c → Pr l → Pr (c :: half c :: l)

theorem Pr.app {a b : List C} (ha : Pr a) (hb : Pr b) : Pr (a ++ b) := by
  induction ha with
  | nil => exact hb
  | one h _ ih => exact .one h ih
  | pair h _ ih => exact .pair h ih
theorem Pr.blanks (n : Nat) (b : Int) : Pr (List.replicate n (blank b)) := by
  induction n with
  | zero => exact .nil
  | succ n ih => exact .one (blank_narrow b) ih

/-- The error of the first cell of a list (0: none). -/
def front (c : C) (r : List C) : Nat :=
  if c.w ≠ 1 ∧ c.w ≠ 2 then 12 else if chk c.t ≠ 0 then 3 else if wd c.t ≠ c.w then 12 else if c.w = 2 ∧ r.head? ≠ some (half c) then 12 else 0
def scan : List C → Nat
  | [] => 0
  | [c] => front c []
  | c :: d :: l => if front c (d :: l) ≠ 0 then front c (d :: l) else if c.w = 2 then scan l else scan (d :: l)
def check (l : List C) : Nat := if l.length < 1 ∨ 132 < l.length then 5 else scan l

theorem front_zero {c : C} {r : List C} (h : front c r = 0) : (c.w = 1 ∧ Narrow c) ∨ (c.w = 2 ∧ Wide c ∧ ∃ l, r = half c :: l) := by
  unfold front at h
  split at h
  · cases h
  · split at h
    · cases h
    · split at h
      · cases h
      · split at h
        · cases h
        · rename_i h1 h2 h3 h4
          have h2' : chk c.t = 0 := by omega
          have h3' : wd c.t = c.w := by omega
          by_cases hw : c.w = 2
          · refine .inr ⟨hw, ⟨hw, h2', by omega⟩, ?_⟩
            cases r with
            | nil => exact absurd ⟨hw, by simp⟩ h4
            | cons d l =>
              have : d = half c := by
                by_cases e : d = half c
                · exact e
                · exact absurd ⟨hw, by simp [e]⟩ h4
              exact ⟨l, by rw [this]⟩
          · have hw1 : c.w = 1 := by omega
            exact .inl ⟨hw1, hw1, h2', by omega⟩
theorem front_narrow {c : C} (r : List C) (h : Narrow c) : front c r = 0 := by
  obtain ⟨h1, h2, h3⟩ := h
  unfold front
  rw [if_neg (by omega), if_neg (by omega), if_neg (by omega), if_neg (by omega)]
theorem front_wide {c : C} (l : List C) (h : Wide c) : front c (half c :: l) = 0 := by
  obtain ⟨h1, h2, h3⟩ := h
  unfold front
  rw [if_neg (by omega), if_neg (by omega), if_neg (by omega), if_neg (by simp)]
theorem scan_step (c : C) (r : List C) : scan (c :: r) = if front c r ≠ 0 then front c r else scan (r.drop (c.w.toNat - 1)) := by
  by_cases hf : front c r = 0
  · rw [if_neg (by omega)]
    rcases front_zero hf with ⟨hw, _⟩ | ⟨hw, _, l, rfl⟩
    · rw [hw]
      cases r with
      | nil => exact hf
      | cons d l =>
        show (if front c (d :: l) ≠ 0 then front c (d :: l) else if c.w = 2 then scan l else scan (d :: l)) = _
        rw [if_neg (by omega), if_neg (by omega)]
        rfl
    · show (if front c (half c :: l) ≠ 0 then front c (half c :: l) else if c.w = 2 then scan l else scan (half c :: l)) = _
      rw [if_neg (by omega), if_pos hw, hw]
      rfl
  · rw [if_pos hf]
    cases r with
    | nil => rfl
    | cons d l =>
      show (if front c (d :: l) ≠ 0 then front c (d :: l) else if c.w = 2 then scan l else scan (d :: l)) = _
      rw [if_pos hf]
theorem scan_of {l : List C} (h : Pr l) : scan l = 0 := by
  induction h with
  | nil => rfl
  | one h _ ih => rw [scan_step, front_narrow _ h, if_neg (by omega), h.1]; exact ih
  | pair h _ ih => rw [scan_step, front_wide _ h, if_neg (by omega), h.1]; exact ih
theorem of_scan : ∀ (n : Nat) (l : List C), l.length ≤ n → scan l = 0 → Pr l := by
  intro n
  induction n with
  | zero => intro l hl _; cases l with
    | nil => exact .nil
    | cons c r => simp at hl
  | succ n ih =>
    intro l hl h
    cases l with
    | nil => exact .nil
    | cons c r =>
      rw [scan_step] at h
      by_cases hf : front c r = 0
      · rw [if_neg (by omega)] at h
        simp at hl
        rcases front_zero hf with ⟨hw, hn⟩ | ⟨hw, hn, m, rfl⟩
        · rw [hw] at h
          exact .one hn (ih r hl h)
        · rw [hw] at h
          refine .pair hn (ih m ?_ h)
          simp at hl; omega
      · rw [if_pos hf] at h
        exact absurd h hf
theorem check_zero {l : List C} : check l = 0 ↔ (1 ≤ l.length ∧ l.length ≤ 132 ∧ Pr l) := by
  unfold check
  by_cases h : l.length < 1 ∨ 132 < l.length
  · rw [if_pos h]
    constructor
    · intro h; cases h
    · rintro ⟨h1, h2, _⟩; omega
  · rw [if_neg h]
    constructor
    · intro h0; exact ⟨by omega, by omega, of_scan _ _ (Nat.le_refl _) h0⟩
    · rintro ⟨_, _, h2⟩; exact scan_of h2
theorem check_good {l : List C} (h : Pr l) (h1 : 1 ≤ l.length) (h2 : l.length ≤ 132) : check l = 0 := check_zero.2 ⟨h1, h2, h⟩

/-- Where a proper row is cut. -/
theorem cut {l : List C} (h : Pr l) : ∀ k, k ≤ l.length → (∃ a b, l = a ++ b ∧ a.length = k ∧ Pr a ∧ Pr b) ∨ (∃ a p b, l = a ++ p :: half p :: b ∧ a.length + 1 = k ∧ Pr a ∧ Wide p ∧ Pr b) := by
  induction h with
  | nil => intro k hk; exact .inl ⟨[], [], rfl, by simp at hk; simp; omega, .nil, .nil⟩
  | @one c l hc hl ih =>
    intro k hk
    cases k with
    | zero => exact .inl ⟨[], c :: l, rfl, rfl, .nil, .one hc hl⟩
    | succ k =>
      simp at hk
      rcases ih k hk with ⟨a, b, rfl, h1, h2, h3⟩ | ⟨a, p, b, rfl, h1, h2, h3, h4⟩
      · exact .inl ⟨c :: a, b, rfl, by simp [h1], .one hc h2, h3⟩
      · exact .inr ⟨c :: a, p, b, rfl, by simp [h1], .one hc h2, h3, h4⟩
  | @pair c l hc hl ih =>
    intro k hk
    match k with
    | 0 => exact .inl ⟨[], c :: half c :: l, rfl, rfl, .nil, .pair hc hl⟩
    | 1 => exact .inr ⟨[], c, l, rfl, rfl, .nil, hc, hl⟩
    | k + 2 =>
      simp at hk
      rcases ih k hk with ⟨a, b, rfl, h1, h2, h3⟩ | ⟨a, p, b, rfl, h1, h2, h3, h4⟩
      · exact .inl ⟨c :: half c :: a, b, rfl, by simp [h1], .pair hc h2, h3⟩
      · exact .inr ⟨c :: half c :: a, p, b, rfl, by simp; omega, .pair hc h2, h3, h4⟩
theorem Pr.head {c : C} {l : List C} (h : Pr (c :: l)) : c.w ≠ 0 := by
  cases h with
  | one h _ => rw [h.1]; decide
  | pair h _ => rw [h.1]; decide
theorem Pr.last {l : List C} (h : Pr l) : ∀ c, l.getLast? = some c → c.w ≠ 2 := by
  induction h with
  | nil => intro c hc; simp at hc
  | @one d l hd hl ih =>
    intro c hc
    cases l with
    | nil => simp at hc; subst hc; rw [hd.1]; decide
    | cons e l => rw [List.getLast?_cons_cons] at hc; exact ih c hc
  | @pair d l hd hl ih =>
    intro c hc
    rw [List.getLast?_cons_cons] at hc
    cases l with
    | nil => simp at hc; subst hc; simp [half]
    | cons e l => rw [List.getLast?_cons_cons] at hc; exact ih c hc

/-- The part left of a cut: the first cell of a pair at its end becomes blank; the part right of a cut: the second cell at its beginning. -/
def cutL (l : List C) : List C := match l.getLast? with
  | some c => if c.w = 2 then l.dropLast ++ [blank c.b] else l
  | none => l
def cutR : List C → List C
  | [] => []
  | c :: r => (if c.w = 0 then blank c.b else c) :: r
theorem cutL_nil : cutL [] = [] := rfl
theorem cutL_snoc (l : List C) (c : C) : cutL (l ++ [c]) = l ++ [if c.w = 2 then blank c.b else c] := by
  unfold cutL
  rw [List.getLast?_concat]
  simp only
  split
  · rw [List.dropLast_concat]
  · rfl
theorem cutL_app (a b : List C) (hb : b ≠ []) : cutL (a ++ b) = a ++ cutL b := by
  rcases List.eq_nil_or_concat b with rfl | ⟨m, c, rfl⟩
  · exact absurd rfl hb
  · rw [List.concat_eq_append, ← List.append_assoc, cutL_snoc, cutL_snoc, List.append_assoc]
theorem cutL_length (l : List C) : (cutL l).length = l.length := by
  rcases List.eq_nil_or_concat l with rfl | ⟨m, c, rfl⟩
  · rfl
  · rw [List.concat_eq_append, cutL_snoc]; simp
theorem cutR_length (l : List C) : (cutR l).length = l.length := by cases l <;> rfl
theorem cutL_proper {l : List C} (h : Pr l) : cutL l = l := by
  rcases List.eq_nil_or_concat l with rfl | ⟨m, c, rfl⟩
  · rfl
  · rw [List.concat_eq_append] at h ⊢
    have := h.last c List.getLast?_concat
    rw [cutL_snoc, if_neg this]
theorem cutR_proper {l : List C} (h : Pr l) : cutR l = l := by
  cases l with
  | nil => rfl
  | cons c r => simp only [cutR]; rw [if_neg h.head]
theorem cutL_Pr {l : List C} (h : Pr l) (k : Nat) : Pr (cutL (l.take k)) := by
  rcases Nat.lt_or_ge l.length k with hk | hk
  · rw [List.take_of_length_le (by omega), cutL_proper h]; exact h
  · rcases cut h k hk with ⟨a, b, rfl, h1, h2, h3⟩ | ⟨a, p, b, rfl, h1, h2, h3, h4⟩
    · rw [← h1, List.take_left' rfl, cutL_proper h2]; exact h2
    · have e : (a ++ p :: half p :: b).take k = a ++ [p] := by
        rw [← h1, List.take_append, List.take_of_length_le (by omega)]
        simp
      rw [e, cutL_snoc, if_pos h3.1]
      exact h2.app (.one (blank_narrow _) .nil)
theorem cutR_Pr {l : List C} (h : Pr l) (k : Nat) : Pr (cutR (l.drop k)) := by
  rcases Nat.lt_or_ge l.length k with hk | hk
  · rw [List.drop_of_length_le (by omega)]; exact .nil
  · rcases cut h k hk with ⟨a, b, rfl, h1, h2, h3⟩ | ⟨a, p, b, rfl, h1, h2, h3, h4⟩
    · rw [← h1, List.drop_left' rfl, cutR_proper h3]; exact h3
    · have e : (a ++ p :: half p :: b).drop k = half p :: b := by
        rw [← h1, List.drop_append]
        simp
      rw [e]
      exact .one (blank_narrow _) h4

/-- Separating a row at a column. -/
def sep (l : List C) (k : Nat) : List C := match l[k]? with
  | some c => if c.w = 0 then (l.set (k - 1) (blank (l.getD (k - 1) c).b)).set k (blank c.b) else l
  | none => l
theorem sep_length (l : List C) (k : Nat) : (sep l k).length = l.length := by
  unfold sep
  split
  · split <;> simp
  · rfl
theorem sep_even {a b : List C} (h : Pr b) : sep (a ++ b) a.length = a ++ b := by
  cases b with
  | nil => unfold sep; simp
  | cons c r => unfold sep; simp [h.head]
theorem sep_mid (a : List C) (p : C) (b : List C) : sep (a ++ p :: half p :: b) (a.length + 1) = a ++ blank p.b :: blank p.b :: b := by
  have e : (a ++ p :: half p :: b)[a.length + 1]? = some (half p) := by
    rw [List.getElem?_append_right (by omega)]
    simp
  unfold sep
  rw [e]
  simp only
  rw [if_pos (show (half p).w = 0 from rfl)]
  have e2 : (a ++ p :: half p :: b).getD (a.length + 1 - 1) (half p) = p := by simp
  rw [e2, Nat.add_sub_cancel, List.set_append_right _ _ (by omega), List.set_append_right _ _ (by omega)]
  simp [half]
theorem sep_cut {l : List C} (h : Pr l) (k : Nat) (hk : k ≤ l.length) : sep l k = cutL (l.take k) ++ cutR (l.drop k) := by
  rcases cut h k hk with ⟨a, b, rfl, h1, h2, h3⟩ | ⟨a, p, b, rfl, h1, h2, h3, h4⟩
  · rw [← h1, sep_even h3, List.take_left' rfl, List.drop_left' rfl, cutL_proper h2, cutR_proper h3]
  · have e : (a ++ p :: half p :: b).take k = a ++ [p] := by
      rw [← h1, List.take_append, List.take_of_length_le (by omega)]
      simp
    have e2 : (a ++ p :: half p :: b).drop k = half p :: b := by
      rw [← h1, List.drop_append]
      simp
    rw [e, e2, cutL_snoc, if_pos h3.1, ← h1, sep_mid]
    simp [cutR, half]
theorem sep_Pr {l : List C} (h : Pr l) (k : Nat) (hk : k ≤ l.length) : Pr (sep l k) := by rw [sep_cut h k hk]; exact (cutL_Pr h k).app (cutR_Pr h k)

theorem cutL_take {l : List C} {i j : Nat} (h : i < j) (hj : j ≤ l.length) : (cutL (l.take j)).take i = l.take i := by
  rcases List.eq_nil_or_concat (l.take j) with e | ⟨m, c, e⟩
  · have := congrArg List.length e
    rw [List.length_take, List.length_nil] at this
    omega
  · rw [List.concat_eq_append] at e
    rw [e, cutL_snoc]
    have hm : m.length + 1 = j := by
      have := congrArg List.length e
      simp at this
      omega
    rw [List.take_append_of_le_length (by omega)]
    have : l.take i = (l.take j).take i := by rw [List.take_take, Nat.min_eq_left (by omega)]
    rw [this, e, List.take_append_of_le_length (by omega)]
theorem cutL_twice (l : List C) : cutL (cutL l) = cutL l := by
  rcases List.eq_nil_or_concat l with rfl | ⟨m, c, rfl⟩
  · rfl
  · rw [List.concat_eq_append, cutL_snoc, cutL_snoc]
    by_cases h : c.w = 2
    · rw [if_pos h, if_neg (by simp [blank])]
    · rw [if_neg h, if_neg h]
theorem cutR_drop (l : List C) {k : Nat} (h : 0 < k) : (cutR l).drop k = l.drop k := by
  cases l with
  | nil => rfl
  | cons c r =>
    cases k with
    | zero => omega
    | succ k => rfl
theorem cutR_twice (l : List C) : cutR (cutR l) = cutR l := by
  cases l with
  | nil => rfl
  | cons c r =>
    simp only [cutR]
    by_cases h : c.w = 0
    · rw [if_pos h, if_neg (by simp [blank])]
    · rw [if_neg h, if_neg h]
/-- Separated at two columns. -/
theorem sep_two {l : List C} (h : Pr l) (i j : Nat) (hi : i ≤ j) (hj : j ≤ l.length) :
    sep (sep l i) j = cutL (l.take i) ++ cutL ((cutR (l.drop i)).take (j - i)) ++ cutR (l.drop j) := by
  have h1 := sep_Pr h i (by omega)
  rw [sep_cut h1 j (by rw [sep_length]; exact hj), sep_cut h i (by omega)]
  have hl : (cutL (l.take i)).length = i := by rw [cutL_length, List.length_take]; omega
  rcases Nat.lt_or_ge i j with hij | hij
  · have e1 : (cutL (l.take i) ++ cutR (l.drop i)).take j = cutL (l.take i) ++ (cutR (l.drop i)).take (j - i) := by
      rw [List.take_append, hl, List.take_of_length_le (by omega)]
    have e2 : (cutL (l.take i) ++ cutR (l.drop i)).drop j = l.drop j := by
      rw [List.drop_append, hl, List.drop_of_length_le (by omega), List.nil_append, cutR_drop _ (by omega), List.drop_drop]
      congr 1; omega
    rw [e1, e2, cutL_app]
    intro e
    have := congrArg List.length e
    rw [List.length_take, cutR_length, List.length_drop] at this
    simp at this
    omega
  · have e : i = j := by omega
    subst e
    rw [Nat.sub_self, List.take_zero, cutL_nil, List.append_nil, List.take_left' hl, List.drop_left' hl, cutL_twice, cutR_twice]
theorem two_left {l : List C} (h : Pr l) (i j : Nat) (hi : i ≤ j) (hj : j ≤ l.length) : (sep (sep l i) j).take i = cutL (l.take i) := by
  rw [sep_two h i j hi hj, List.append_assoc, List.take_left' (by rw [cutL_length, List.length_take]; omega)]
theorem two_right {l : List C} (h : Pr l) (i j : Nat) (hi : i ≤ j) (hj : j ≤ l.length) : (sep (sep l i) j).drop j = cutR (l.drop j) := by
  rw [sep_two h i j hi hj, List.drop_left' (by rw [List.length_append, cutL_length, cutL_length, List.length_take, List.length_take, cutR_length, List.length_drop]; omega)]
theorem two_mid {l : List C} (h : Pr l) (i j : Nat) (hi : i ≤ j) (hj : j ≤ l.length) : ((sep (sep l i) j).drop i).take (j - i) = cutL ((cutR (l.drop i)).take (j - i)) := by
  rw [sep_two h i j hi hj, List.append_assoc, List.drop_left' (by rw [cutL_length, List.length_take]; omega), List.take_left' (by rw [cutL_length, List.length_take, cutR_length, List.length_drop]; omega)]

/-- What the functions return where they return a row. -/
def blanks (n : Nat) (b : Int) : List C := List.replicate n (blank b)
def repl (l : List C) (i j : Nat) (cs : List C) : List C := cutL (l.take i) ++ cs ++ cutR (l.drop j)
def cells (t : ByteArray) (f b g : Int) : List C := if wd t = 2 then [⟨t, 2, f, b, g⟩, ⟨⟨#[]⟩, 0, f, b, g⟩] else [⟨t, wd t, f, b, g⟩]
def ins (l : List C) (col n : Nat) (b : Int) : List C := cutL (l.take col) ++ blanks n b ++ cutL ((cutR (l.drop col)).take (l.length - n - col))
def del (l : List C) (col n : Nat) (b : Int) : List C := cutL (l.take col) ++ cutR (l.drop (col + n)) ++ blanks n b
def fit (l : List C) (w : Nat) : List C := cutL (l.take (min w l.length)) ++ blanks (w - min w l.length) (-1)

theorem blanks_length (n : Nat) (b : Int) : (blanks n b).length = n := List.length_replicate
theorem cells_Pr {t : ByteArray} (h : chk t = 0) (f b g : Int) : Pr (cells t f b g) ∧ ((cells t f b g).length : Int) = wd t := by
  unfold cells
  rcases wd_ok h with hw | hw
  · rw [if_neg (by omega), hw]
    exact ⟨.one ⟨rfl, h, hw⟩ .nil, rfl⟩
  · rw [if_pos hw, hw]
    exact ⟨.pair (c := ⟨t, 2, f, b, g⟩) ⟨rfl, h, hw⟩ .nil, rfl⟩
theorem repl_Pr {l cs : List C} (h : Pr l) (hc : Pr cs) (i j : Nat) : Pr (repl l i j cs) := ((cutL_Pr h i).app hc).app (cutR_Pr h j)
theorem repl_length {l cs : List C} (i j : Nat) (hij : i ≤ j) (hj : j ≤ l.length) (hc : cs.length = j - i) : (repl l i j cs).length = l.length := by
  unfold repl
  rw [List.length_append, List.length_append, cutL_length, cutR_length, hc, List.length_take, List.length_drop]
  omega
theorem mid_Pr {l : List C} (h : Pr l) (i k : Nat) : Pr (cutL ((cutR (l.drop i)).take k)) := cutL_Pr (cutR_Pr h i) k
theorem ins_Pr {l : List C} (h : Pr l) (i n : Nat) (b : Int) : Pr (ins l i n b) := ((cutL_Pr h i).app (Pr.blanks n b)).app (mid_Pr h _ _)
theorem ins_length {l : List C} (i n : Nat) (b : Int) (hi : i + n ≤ l.length) : (ins l i n b).length = l.length := by
  unfold ins
  rw [List.length_append, List.length_append, cutL_length, cutL_length, blanks_length, List.length_take, List.length_take, cutR_length, List.length_drop]
  omega
theorem del_Pr {l : List C} (h : Pr l) (i n : Nat) (b : Int) : Pr (del l i n b) := ((cutL_Pr h i).app (cutR_Pr h _)).app (Pr.blanks n b)
theorem del_length {l : List C} (i n : Nat) (b : Int) (hi : i + n ≤ l.length) : (del l i n b).length = l.length := by
  unfold del
  rw [List.length_append, List.length_append, cutL_length, cutR_length, blanks_length, List.length_take, List.length_drop]
  omega
theorem fit_Pr {l : List C} (h : Pr l) (w : Nat) : Pr (fit l w) := (cutL_Pr h _).app (Pr.blanks _ _)
theorem fit_length (l : List C) (w : Nat) : (fit l w).length = w := by
  unfold fit
  rw [List.length_append, cutL_length, blanks_length, List.length_take]
  omega

end Cr
end Go.Proofs.YtcljmmadimldlaaDoor
