/-
  Clusters as plain mathematics on lists of numbers: splitting, which strings are clusters, and what splitting keeps. No program, no memory.
-/
import Derived.Test.YtcljmmadimldlaaDoorCMath
import Derived.Test.YtcljmmadimldlaaDoorEncThree
namespace Go.Proofs.YtcljmmadimldlaaDoor
namespace Cl
open U8 (fix encL enc1 run)

def isMark (r : Int) : Bool := Cw.hits Cw.marks r
def isBase (r : Int) : Bool := decide (0 < Cw.wd r)

theorem base_not_mark {r : Int} (h : isBase r = true) : isMark r = false := by
  cases e : isMark r
  · rfl
  · have := Cw.wd_mark e
    unfold isBase at h
    rw [this] at h
    cases h
theorem mark_not_base {r : Int} (h : isMark r = true) : isBase r = false := by
  have := Cw.wd_mark h
  unfold isBase
  rw [this]
  rfl
theorem other_ctl {r : Int} (h1 : isMark r = false) (h2 : isBase r = false) : Cw.wd r = -1 := by
  have h3 : Cw.wd r ≠ 0 := fun e => by
    have := (Cw.wd_zero r).1 e
    unfold isMark at h1
    rw [this] at h1
    cases h1
  unfold isBase at h2
  have h4 : ¬ 0 < Cw.wd r := by simpa using h2
  rcases Cw.wd_cases r with h | h | h | h <;> omega
theorem ctl_other {r : Int} (h : Cw.wd r = -1) : isMark r = false ∧ isBase r = false := by
  refine ⟨?_, by unfold isBase; rw [h]; rfl⟩
  cases e : isMark r
  · rfl
  · have := Cw.wd_mark e
    omega
theorem fix_mark {r : Int} (h : isMark r = true) : fix r = r := by
  have := (Cw.hits_marks r).1 h
  unfold fix
  rw [if_neg (by omega)]
theorem wd_fix {r : Int} (h : isBase r = true) : Cw.wd (fix r) = Cw.wd r := by
  unfold isBase at h
  have h0 : 0 < Cw.wd r := by simpa using h
  unfold fix
  split
  · rename_i hr
    have hc : Cw.ctl r = false := by
      cases e : Cw.ctl r
      · rfl
      · have := Cw.wd_ctl e; omega
    have hm : Cw.hits Cw.marks r = false := by
      cases e : Cw.hits Cw.marks r
      · rfl
      · have := Cw.wd_mark e; omega
    have hn : ¬ r < 32 := fun e => by
      have := (Cw.ctl_iff r).2 (.inl e)
      rw [hc] at this
      cases this
    have hw : Cw.hits Cw.wide r = false := by
      cases e : Cw.hits Cw.wide r
      · rfl
      · have := (Cw.hits_wide r).1 e; omega
    rw [Cw.wd_one hc hm hw]
    decide
  · rfl
theorem base_fix {r : Int} (h : isBase r = true) : isBase (fix r) = true := by
  have := wd_fix h
  unfold isBase at h ⊢
  rw [this]
  exact h

/-- Splitting: the clusters that are done, and the last one; none yet: []. -/
def step (st : List (List Int) × List Int) (r : Int) : List (List Int) × List Int :=
  if isMark r = true then
    if st.2 = [] then (st.1, [32, r])
    else if st.2.length < 4 then (st.1, st.2 ++ [r]) else st
  else if isBase r = true then (if st.2 = [] then st.1 else st.1 ++ [st.2], [r])
  else st
def full (st : List (List Int) × List Int) : List (List Int) := if st.2 = [] then st.1 else st.1 ++ [st.2]
def go (st : List (List Int) × List Int) (l : List Int) : List (List Int) × List Int := l.foldl step st
def split (l : List Int) : List (List Int) := full (go ([], []) l)

theorem full_start : full ([], []) = [] := rfl
theorem go_nil (st : List (List Int) × List Int) : go st [] = st := rfl
theorem go_cons (st : List (List Int) × List Int) (r : Int) (l : List Int) : go st (r :: l) = go (step st r) l := rfl
theorem go_append (st : List (List Int) × List Int) (a b : List Int) : go st (a ++ b) = go (go st a) b := List.foldl_append
theorem go_snoc (st : List (List Int) × List Int) (a : List Int) (r : Int) : go st (a ++ [r]) = step (go st a) r := by rw [go_append]; rfl

theorem step_base (st : List (List Int) × List Int) {r : Int} (h : isBase r = true) : step st r = (full st, [r]) := by
  unfold step
  rw [if_neg (by rw [base_not_mark h]; simp), if_pos h]
  rfl
theorem step_ctl (st : List (List Int) × List Int) {r : Int} (h1 : isMark r = false) (h2 : isBase r = false) : step st r = st := by
  unfold step
  rw [if_neg (by rw [h1]; simp), if_neg (by rw [h2]; simp)]
theorem step_first (o : List (List Int)) {r : Int} (h : isMark r = true) : step (o, []) r = (o, [32, r]) := by
  unfold step
  rw [if_pos h, if_pos rfl]
theorem step_room (o : List (List Int)) {c : List Int} {r : Int} (h : isMark r = true) (hc : c ≠ []) (hl : c.length < 4) : step (o, c) r = (o, c ++ [r]) := by
  unfold step
  rw [if_pos h, if_neg hc, if_pos hl]
theorem step_full (o : List (List Int)) {c : List Int} {r : Int} (h : isMark r = true) (hc : c ≠ []) (hl : ¬ c.length < 4) : step (o, c) r = (o, c) := by
  unfold step
  rw [if_pos h, if_neg hc, if_neg hl]

/-- A base and at most three marks. -/
def Good (g : List Int) : Prop := ∃ b ms, g = b :: ms ∧ isBase b = true ∧ (∀ m ∈ ms, isMark m = true) ∧ ms.length ≤ 3
theorem Good.ne {g : List Int} (h : Good g) : g ≠ [] := by obtain ⟨b, ms, rfl, _⟩ := h; simp
theorem Good.len {g : List Int} (h : Good g) : g.length ≤ 4 := by obtain ⟨b, ms, rfl, _, _, h⟩ := h; simp; omega
theorem Good.one {r : Int} (h : isBase r = true) : Good [r] := ⟨r, [], rfl, h, (fun m hm => by cases hm), by simp⟩
theorem space_base : isBase 32 = true := by decide
theorem Good.snoc {g : List Int} {r : Int} (h : Good g) (hr : isMark r = true) (hl : g.length < 4) : Good (g ++ [r]) := by
  obtain ⟨b, ms, rfl, h1, h2, h3⟩ := h
  simp only [List.length_cons] at hl
  refine ⟨b, ms ++ [r], rfl, h1, fun m hm => ?_, by simp; omega⟩
  rcases List.mem_append.1 hm with hm | hm
  · exact h2 m hm
  · rw [List.mem_singleton] at hm; rw [hm]; exact hr
theorem Good.fix {g : List Int} (h : Good g) : Good (g.map U8.fix) := by
  obtain ⟨b, ms, rfl, h1, h2, h3⟩ := h
  refine ⟨U8.fix b, ms.map U8.fix, rfl, base_fix h1, fun m hm => ?_, by simpa using h3⟩
  obtain ⟨m', hm', rfl⟩ := List.mem_map.1 hm
  rw [fix_mark (h2 m' hm')]
  exact h2 m' hm'

/-- What splitting keeps: what is done is good, the last one is good or there is none, and then none is done. -/
def Keeps (st : List (List Int) × List Int) : Prop := (∀ g ∈ st.1, Good g) ∧ (st.2 = [] → st.1 = []) ∧ (st.2 ≠ [] → Good st.2)
theorem Keeps.full {st : List (List Int) × List Int} (h : Keeps st) : ∀ g ∈ full st, Good g := by
  intro g hg
  unfold Cl.full at hg
  split at hg
  · exact h.1 g hg
  · rename_i hne
    rcases List.mem_append.1 hg with hg | hg
    · exact h.1 g hg
    · rw [List.mem_singleton] at hg; rw [hg]; exact h.2.2 hne
theorem Keeps.step {st : List (List Int) × List Int} (h : Keeps st) (r : Int) : Keeps (step st r) := by
  obtain ⟨o, c⟩ := st
  cases hm : isMark r
  · cases hb : isBase r
    · rw [step_ctl _ hm hb]; exact h
    · rw [step_base _ hb]
      exact ⟨h.full, (fun e => by cases e), fun _ => Good.one hb⟩
  · by_cases hc : c = []
    · subst hc
      rw [step_first o hm]
      refine ⟨h.1, (fun e => by cases e), fun _ => ?_⟩
      exact (Good.one space_base).snoc hm (by simp)
    · by_cases hl : c.length < 4
      · rw [step_room o hm hc hl]
        exact ⟨h.1, (fun e => by simp at e), fun _ => (h.2.2 hc).snoc hm hl⟩
      · rw [step_full o hm hc hl]; exact h
theorem Keeps.go (l : List Int) : ∀ {st : List (List Int) × List Int}, Keeps st → Keeps (go st l) := by
  induction l with
  | nil => intro st h; exact h
  | cons r l ih => intro st h; rw [go_cons]; exact ih (h.step r)
theorem keeps_start : Keeps ([], []) := ⟨(fun g hg => by cases hg), (fun _ => rfl), fun h => absurd rfl h⟩
theorem keeps_go (l : List Int) : Keeps (go ([], []) l) := keeps_start.go l
theorem split_good (l : List Int) : ∀ g ∈ split l, Good g := (keeps_go l).full

/-- How long splitting makes things. -/
theorem step_len (st : List (List Int) × List Int) (r : Int) : (full (step st r)).length ≤ (full st).length + 1 := by
  obtain ⟨o, c⟩ := st
  cases hm : isMark r
  · cases hb : isBase r
    · rw [step_ctl _ hm hb]; omega
    · rw [step_base _ hb]
      simp [full]
  · by_cases hc : c = []
    · subst hc
      rw [step_first o hm]
      simp [full]
    · by_cases hl : c.length < 4
      · rw [step_room o hm hc hl]
        simp [full, hc]
      · rw [step_full o hm hc hl]; omega
theorem go_len (l : List Int) : ∀ st : List (List Int) × List Int, (full (go st l)).length ≤ (full st).length + l.length := by
  induction l with
  | nil => intro st; simp [go_nil]
  | cons r l ih =>
    intro st
    have h1 := ih (step st r)
    have h2 := step_len st r
    rw [go_cons, List.length_cons]
    omega
theorem split_len (l : List Int) : (split l).length ≤ l.length := by
  have := go_len l ([], [])
  rw [full_start] at this
  unfold split
  simpa using this

/-- A good list of characters behind others is a cluster of its own. -/
theorem go_marks (o : List (List Int)) (ms : List Int) (hm : ∀ m ∈ ms, isMark m = true) : ∀ c : List Int, c ≠ [] → c.length + ms.length ≤ 4 → go (o, c) ms = (o, c ++ ms) := by
  induction ms with
  | nil => intro c _ _; simp [go_nil]
  | cons m ms ih =>
    intro c hc hl
    simp only [List.length_cons] at hl
    rw [go_cons, step_room o (hm m (.head _)) hc (by omega), ih (fun m' h' => hm m' (.tail _ h')) _ (by simp) (by simp; omega)]
    simp
theorem go_good (st : List (List Int) × List Int) {g : List Int} (h : Good g) : go st g = (full st, g) := by
  obtain ⟨b, ms, rfl, h1, h2, h3⟩ := h
  rw [go_cons, step_base _ h1, go_marks _ ms h2 _ (by simp) (by simp; omega)]
  rfl
theorem full_go_flatten (gs : List (List Int)) (h : ∀ g ∈ gs, Good g) : ∀ st : List (List Int) × List Int, full (go st gs.flatten) = full st ++ gs := by
  induction gs with
  | nil => intro st; simp [go_nil]
  | cons g gs ih =>
    intro st
    rw [List.flatten_cons, go_append, go_good st (h g (.head _)), ih (fun g' h' => h g' (.tail _ h'))]
    have hne := (h g (.head _)).ne
    simp [full, hne]
theorem split_flatten (gs : List (List Int)) (h : ∀ g ∈ gs, Good g) : split gs.flatten = gs := by
  have := full_go_flatten gs h ([], [])
  rw [full_start] at this
  unfold split
  simpa using this
theorem split_good_one {g : List Int} (h : Good g) : split g = [g] := by
  have := split_flatten [g] (fun g' h' => by rw [List.mem_singleton] at h'; rw [h']; exact h)
  simpa using this
theorem flatten_fix (gs : List (List Int)) : gs.flatten.map fix = (gs.map (List.map fix)).flatten := by
  induction gs with
  | nil => rfl
  | cons g gs ih => simp [ih]
/-- Splitting the characters of what was split. -/
theorem split_again (l : List Int) : split ((split l).flatten.map fix) = (split l).map (List.map fix) := by
  rw [flatten_fix]
  refine split_flatten _ fun g hg => ?_
  obtain ⟨g', hg', rfl⟩ := List.mem_map.1 hg
  exact (split_good l g' hg').fix
theorem flatten_len (gs : List (List Int)) (h : ∀ g ∈ gs, Good g) : gs.flatten.length ≤ 4 * gs.length := by
  induction gs with
  | nil => simp
  | cons g gs ih =>
    have h1 := (h g (.head _)).len
    have h2 := ih (fun g' h' => h g' (.tail _ h'))
    simp only [List.flatten_cons, List.length_append, List.length_cons]
    omega

/-- More marks than there is room for. -/
theorem go_many (o : List (List Int)) (ms : List Int) (hm : ∀ m ∈ ms, isMark m = true) : ∀ (b : Int) (t : List Int), t.length ≤ 3 → go (o, b :: t) ms = (o, b :: (t ++ ms).take 3) := by
  induction ms with
  | nil => intro b t ht; rw [go_nil, List.append_nil, List.take_of_length_le ht]
  | cons m ms ih =>
    intro b t ht
    by_cases hl : t.length < 3
    · rw [go_cons, step_room o (hm m (.head _)) (by simp) (by simp; omega)]
      have := ih (fun m' h' => hm m' (.tail _ h')) b (t ++ [m]) (by simp; omega)
      rw [List.cons_append, this]
      simp
    · rw [go_cons, step_full o (hm m (.head _)) (by simp) (by simp; omega), ih (fun m' h' => hm m' (.tail _ h')) b t ht]
      have e : t.length = 3 := by omega
      rw [List.take_append_of_le_length (by omega), List.take_append_of_le_length (by omega)]
theorem split_many {b : Int} {ms : List Int} (hb : isBase b = true) (hm : ∀ m ∈ ms, isMark m = true) : split (b :: ms) = [b :: ms.take 3] := by
  unfold split
  rw [go_cons, step_base _ hb, go_many _ ms hm b [] (by simp)]
  simp [full]

/-- Splitting behind other characters. -/
theorem full_shift_step (a o : List (List Int)) (c : List Int) (r : Int) : step (a ++ o, c) r = (a ++ (step (o, c) r).1, (step (o, c) r).2) := by
  cases hm : isMark r
  · cases hb : isBase r
    · rw [step_ctl _ hm hb, step_ctl _ hm hb]
    · rw [step_base _ hb, step_base _ hb]
      by_cases hc : c = [] <;> simp [full, hc]
  · by_cases hc : c = []
    · subst hc
      rw [step_first _ hm, step_first _ hm]
    · by_cases hl : c.length < 4
      · rw [step_room _ hm hc hl, step_room _ hm hc hl]
      · rw [step_full _ hm hc hl, step_full _ hm hc hl]
theorem go_shift (l : List Int) : ∀ (a o : List (List Int)) (c : List Int), go (a ++ o, c) l = (a ++ (go (o, c) l).1, (go (o, c) l).2) := by
  induction l with
  | nil => intro a o c; rfl
  | cons r l ih =>
    intro a o c
    rw [go_cons, go_cons, full_shift_step]
    obtain ⟨x, y⟩ := step (o, c) r
    exact ih a x y
theorem full_shift (a o : List (List Int)) (c : List Int) : full (a ++ o, c) = a ++ full (o, c) := by
  unfold full
  by_cases hc : c = [] <;> simp [hc]
theorem go_ctl (l : List Int) (h : ∀ r ∈ l, Cw.wd r = -1) : ∀ st : List (List Int) × List Int, go st l = st := by
  induction l with
  | nil => intro st; rfl
  | cons r l ih =>
    intro st
    have := ctl_other (h r (.head _))
    rw [go_cons, step_ctl _ this.1 this.2, ih (fun r' h' => h r' (.tail _ h'))]
/-- Control characters, then nothing or a base. -/
def Apart (b : List Int) : Prop := ∃ x y, b = x ++ y ∧ (∀ r ∈ x, Cw.wd r = -1) ∧ (y = [] ∨ ∃ r t, y = r :: t ∧ isBase r = true)
theorem split_apart (a : List Int) {b : List Int} (h : Apart b) : split (a ++ b) = split a ++ split b := by
  obtain ⟨x, y, rfl, hx, hy⟩ := h
  unfold split
  rw [go_append, go_append, go_append, go_ctl x hx, go_ctl x hx]
  rcases hy with rfl | ⟨r, t, rfl, hr⟩
  · rw [go_nil, go_nil, full_start, List.append_nil]
  · rw [go_cons, go_cons, step_base _ hr, step_base _ hr]
    have e := go_shift t (full (go ([], []) a)) [] [r]
    rw [List.append_nil] at e
    rw [e, full_shift]
    rfl

/-- The bases and what comes before them, counted. -/
def count (st : Int × Int) (r : Int) : Int × Int :=
  if isMark r = true then (st.1, if st.1 = 0 then 1 else st.2) else if isBase r = true then (st.1 + 1, st.2) else st
def counts (l : List Int) : Int × Int := l.foldl count (0, 0)
def sums (l : List Int) : Int × Int := l.foldl (fun st r => if isMark r = true then (if st.2 = 0 then (st.1 + 1, 1) else st) else if isBase r = true then (st.1 + Cw.wd r, st.2 + 1) else st) (0, 0)
def widthOf (g : List Int) : Int := Cw.wd (fix (g.headD 0))
def widths (gs : List (List Int)) : Int := (gs.map widthOf).sum

theorem counts_snoc (l : List Int) (r : Int) : counts (l ++ [r]) = count (counts l) r := by unfold counts; rw [List.foldl_append]; rfl
theorem counts_facts (l : List Int) : ∃ n e : Nat, counts l = ((n : Int), (e : Int)) ∧ e ≤ 1 ∧ n ≤ l.length ∧ (split l).length = n + e ∧ ((go ([], []) l).2 = [] ↔ n + e = 0) := by
  suffices h : ∀ k : Nat, ∀ l : List Int, l.length = k → ∃ n e : Nat, counts l = ((n : Int), (e : Int)) ∧ e ≤ 1 ∧ n ≤ l.length ∧ (split l).length = n + e ∧ ((go ([], []) l).2 = [] ↔ n + e = 0) from h l.length l rfl
  intro k
  induction k with
  | zero =>
    intro l hl
    rw [List.eq_nil_of_length_eq_zero hl]
    exact ⟨0, 0, rfl, by omega, by simp, by simp [split, go_nil, full], by simp [go_nil]⟩
  | succ k ih =>
    intro l hl
    obtain ⟨l', r, rfl⟩ : ∃ l' r, l = l' ++ [r] := ⟨l.dropLast, l.getLast (by intro e; rw [e] at hl; cases hl), (List.dropLast_concat_getLast _).symm⟩
    have hl' : l'.length = k := by simp at hl; exact hl
    obtain ⟨n, e, h1, h2, h3, h4, h5⟩ := ih l' hl'
    have hk := keeps_go l'
    unfold split at h4
    rw [counts_snoc, h1]
    unfold split
    rw [go_snoc]
    generalize go ([], []) l' = st at h4 h5 hk
    obtain ⟨o, c⟩ := st
    simp only at h5
    unfold count
    simp only [List.length_append, List.length_cons, List.length_nil]
    cases hm : isMark r
    · cases hb : isBase r
      · refine ⟨n, e, by simp, h2, by omega, ?_, ?_⟩
        · rw [step_ctl _ hm hb]; exact h4
        · rw [step_ctl _ hm hb]; exact h5
      · refine ⟨n + 1, e, by simp, h2, by omega, ?_, ?_⟩
        · rw [step_base _ hb]
          have e3 : full (full (o, c), [r]) = full (o, c) ++ [[r]] := rfl
          rw [e3, List.length_append, h4]
          simp only [List.length_cons, List.length_nil]
          omega
        · rw [step_base _ hb]
          simp
    · by_cases hc : c = []
      · subst hc
        have h0 : n + e = 0 := h5.1 rfl
        obtain ⟨rfl, rfl⟩ : n = 0 ∧ e = 0 := by omega
        have ho : o = [] := hk.2.1 rfl
        subst ho
        refine ⟨0, 1, by simp, by omega, by omega, ?_, ?_⟩
        · rw [step_first _ hm]; simp [full]
        · rw [step_first _ hm]; simp
      · have hne : n + e ≠ 0 := fun h => hc (h5.2 h)
        have hst : full (step (o, c) r) = full (o, c) ∨ (full (step (o, c) r)).length = (full (o, c)).length ∧ (step (o, c) r).2 ≠ [] := by
          by_cases hl : c.length < 4
          · right; rw [step_room o hm hc hl]; simp [full, hc]
          · left; rw [step_full o hm hc hl]
        have hlen : (full (step (o, c) r)).length = n + e := by
          rcases hst with h | h
          · rw [h]; exact h4
          · rw [h.1]; exact h4
        have hcur : (step (o, c) r).2 ≠ [] := by
          by_cases hl : c.length < 4
          · rw [step_room o hm hc hl]; simp
          · rw [step_full o hm hc hl]; exact hc
        by_cases hn : n = 0
        · obtain ⟨rfl, rfl⟩ : n = 0 ∧ e = 1 := by omega
          exact ⟨0, 1, by simp, by omega, by omega, hlen, ⟨fun h => absurd h hcur, fun h => absurd h hne⟩⟩
        · refine ⟨n, e, by simp [hn], h2, by omega, hlen, ⟨fun h => absurd h hcur, fun h => absurd h hne⟩⟩

theorem sums_snoc (l : List Int) (r : Int) : sums (l ++ [r]) = if isMark r = true then (if (sums l).2 = 0 then ((sums l).1 + 1, 1) else sums l) else if isBase r = true then ((sums l).1 + Cw.wd r, (sums l).2 + 1) else sums l := by
  unfold sums; rw [List.foldl_append]; rfl
theorem widths_append (a b : List (List Int)) : widths (a ++ b) = widths a + widths b := by
  unfold widths
  rw [List.map_append, List.sum_append]
theorem widths_one (g : List Int) : widths [g] = widthOf g := by simp [widths]
theorem widthOf_snoc {g : List Int} (r : Int) (h : g ≠ []) : widthOf (g ++ [r]) = widthOf g := by
  cases g with
  | nil => exact absurd rfl h
  | cons a g => rfl
theorem widthOf_bounds (g : List Int) : -1 ≤ widthOf g ∧ widthOf g ≤ 2 := by
  unfold widthOf
  rcases Cw.wd_cases (fix (g.headD 0)) with h | h | h | h <;> omega
theorem sums_facts (l : List Int) : ∃ n : Nat, (sums l).2 = (n : Int) ∧ n ≤ l.length ∧ 0 ≤ (sums l).1 ∧ (sums l).1 ≤ 2 * (l.length : Int) ∧ widths (split l) = (sums l).1 ∧ ((go ([], []) l).2 = [] ↔ n = 0) := by
  suffices h : ∀ k : Nat, ∀ l : List Int, l.length = k → ∃ n : Nat, (sums l).2 = (n : Int) ∧ n ≤ l.length ∧ 0 ≤ (sums l).1 ∧ (sums l).1 ≤ 2 * (l.length : Int) ∧ widths (split l) = (sums l).1 ∧ ((go ([], []) l).2 = [] ↔ n = 0) from h l.length l rfl
  intro k
  induction k with
  | zero =>
    intro l hl
    rw [List.eq_nil_of_length_eq_zero hl]
    exact ⟨0, rfl, by simp, by simp [sums], by simp [sums], by simp [split, go_nil, full, widths, sums], by simp [go_nil]⟩
  | succ k ih =>
    intro l hl
    obtain ⟨l', r, rfl⟩ : ∃ l' r, l = l' ++ [r] := ⟨l.dropLast, l.getLast (by intro e; rw [e] at hl; cases hl), (List.dropLast_concat_getLast _).symm⟩
    have hl' : l'.length = k := by simp at hl; exact hl
    obtain ⟨n, h1, h2, h3, h4, h5, h6⟩ := ih l' hl'
    have hk := keeps_go l'
    unfold split at h5
    rw [sums_snoc]
    unfold split
    rw [go_snoc]
    generalize go ([], []) l' = st at h5 h6 hk
    generalize sums l' = sm at h1 h3 h4 h5
    obtain ⟨o, c⟩ := st
    obtain ⟨z, y⟩ := sm
    simp only at h1 h3 h4 h5 h6
    subst h1
    simp only [List.length_append, List.length_cons, List.length_nil, Nat.zero_add, Int.natCast_add, Int.natCast_one]
    cases hm : isMark r
    · cases hb : isBase r
      · rw [step_ctl _ hm hb]
        exact ⟨n, by simp, by omega, by simpa using h3, by simp; omega, by simpa using h5, h6⟩
      · have hw : 0 < Cw.wd r := by unfold isBase at hb; simpa using hb
        have hw2 : Cw.wd r ≤ 2 := by rcases Cw.wd_cases r with h | h | h | h <;> omega
        rw [step_base _ hb]
        refine ⟨n + 1, by simp, by omega, by simp; omega, by simp; omega, ?_, by simp⟩
        have e : full (full (o, c), [r]) = full (o, c) ++ [[r]] := rfl
        rw [e, widths_append, h5, widths_one]
        have e2 : widthOf [r] = Cw.wd r := wd_fix hb
        rw [e2]
        simp
    · by_cases hc : c = []
      · subst hc
        have h0 : n = 0 := h6.1 rfl
        subst h0
        have ho : o = [] := hk.2.1 rfl
        subst ho
        rw [step_first _ hm]
        have hz : z = 0 := by rw [← h5]; rfl
        subst hz
        have hws : widthOf [32, r] = 1 := by
          show Cw.wd (fix 32) = 1
          decide
        exact ⟨1, by simp, by omega, by simp, by simp; omega, by simp [full, widths, hws], by simp⟩
      · have hne : n ≠ 0 := fun h => hc (h6.2 h)
        have hcur : (step (o, c) r).2 ≠ [] := by
          by_cases hl : c.length < 4
          · rw [step_room o hm hc hl]; simp
          · rw [step_full o hm hc hl]; exact hc
        have hww : widths (full (step (o, c) r)) = widths (full (o, c)) := by
          by_cases hl : c.length < 4
          · rw [step_room o hm hc hl]
            unfold full
            rw [if_neg (by simp), if_neg hc]
            simp only [widths_append, widths_one, widthOf_snoc r hc]
          · rw [step_full o hm hc hl]
        refine ⟨n, by simp [hne], by omega, by simp [hne]; exact h3, by simp [hne]; omega, ?_, ⟨fun h => absurd h hcur, fun h => absurd h hne⟩⟩
        rw [hww, h5]
        simp [hne]

/-- Which error a string has as a cluster. -/
def chk (l : List UInt8) : Nat :=
  if l = [] ∨ Lib.validD l = false then 3
  else if isBase ((run l).1.headD 0) = false ∨ (run l).1.tail.all isMark = false then 9
  else if 3 < (run l).1.tail.length then 5 else 0

theorem chk_good {g : List Int} (h : Good g) : chk (encL g) = 0 ∧ (run (encL g)).1 = g.map fix := by
  have hr := U8.run_encL g
  have h2 := h.fix
  have hne := h.ne
  have hv := U8.valid_encL g
  have he : encL g ≠ [] := fun e => by
    rw [e] at hr
    have : g.map fix = [] := (congrArg Prod.fst hr).symm
    exact hne (List.map_eq_nil_iff.1 this)
  refine ⟨?_, by rw [hr]⟩
  unfold chk
  rw [hr]
  obtain ⟨b, ms, e, k1, k2, k3⟩ := h2
  simp only [e, List.headD_cons, List.tail_cons]
  rw [if_neg (by rw [hv]; simp [he]), if_neg, if_neg (by omega)]
  rintro (h | h)
  · rw [k1] at h; cases h
  · have : ms.all isMark = true := List.all_eq_true.2 k2
    rw [this] at h; cases h
/-- A string without an error is the encoding of a good list of characters. -/
theorem good_chk {l : List UInt8} (h : chk l = 0) : Good (run l).1 ∧ encL (run l).1 = l ∧ (run l).2 = [] := by
  unfold chk at h
  split at h
  · cases h
  · rename_i h1
    split at h
    · cases h
    · rename_i h2
      split at h
      · cases h
      · rename_i h3
        have hv : Lib.validD l = true := by
          cases e : Lib.validD l
          · exact absurd (.inr e) h1
          · rfl
        have hne : l ≠ [] := fun e => h1 (.inl e)
        obtain ⟨hq, he⟩ := (U8.valid_iff l).1 hv
        refine ⟨?_, he, hq⟩
        cases hr : (run l).1 with
        | nil => rw [hr] at he; exact absurd he.symm hne
        | cons b ms =>
          rw [hr] at h2 h3
          simp only [List.headD_cons, List.tail_cons] at h2 h3
          refine ⟨b, ms, rfl, ?_, ?_, by omega⟩
          · cases e : isBase b
            · exact absurd (.inl e) h2
            · rfl
          · have : ms.all isMark = true := by
              cases e : ms.all isMark
              · exact absurd (.inr e) h2
              · rfl
            exact List.all_eq_true.1 this

/-- The base and the marks of a cluster; 0 and none for what is no cluster. -/
def baseOf (l : List UInt8) : Int := if chk l = 0 then (run l).1.headD 0 else 0
def marksOf (l : List UInt8) : List Int := if chk l = 0 then (run l).1.tail else []
theorem chk_bad {l : List UInt8} (h : l = [] ∨ Lib.validD l = false) : chk l = 3 := by unfold chk; rw [if_pos h]
theorem chk_valid {l : List UInt8} {b : Int} {ms : List Int} (h : ¬ (l = [] ∨ Lib.validD l = false)) (hr : (run l).1 = b :: ms) :
    chk l = if isBase b = false ∨ ms.all isMark = false then 9 else if 3 < ms.length then 5 else 0 := by
  unfold chk
  rw [if_neg h, hr]
  rfl
theorem chk_le (l : List UInt8) : chk l ≤ 9 := by
  unfold chk
  repeat' split
  all_goals omega

/-- The strings of clusters. -/
def str (g : List Int) : ByteArray := runesBytes g
theorem str_data (g : List Int) : (str g).data.toList = encL g := U8.bytes_encL g
theorem same_bytes {a b : ByteArray} (h : a.data.toList = b.data.toList) : a = b := by
  cases a; cases b
  congr
  exact Array.toList_inj.1 h
theorem enc1_fix (r : Int) : enc1 (fix r) = enc1 r := by
  have h := (U8.enc_whole r)
  rw [← h.2, U8.enc_val h.1]
theorem encL_append (a b : List Int) : encL (a ++ b) = encL a ++ encL b := by simp [encL]
theorem encL_fix (g : List Int) : encL (g.map fix) = encL g := by
  induction g with
  | nil => rfl
  | cons r g ih => rw [List.map_cons, U8.encL_cons, U8.encL_cons, enc1_fix, ih]
theorem str_fix (g : List Int) : str (g.map fix) = str g := same_bytes (by rw [str_data, str_data, encL_fix])
theorem str_snoc (g : List Int) (r : Int) : str (g ++ [r]) = str g ++ str [r] := same_bytes (by rw [str_data, ByteArray.data_append, Array.toList_append, str_data, str_data, encL_append])
theorem str_size (g : List Int) : (str g).size ≤ 4 * g.length := by
  have := runesBytes_size_le g
  unfold str
  omega
/-- What is joined. -/
theorem join_data (gs : List (List Int)) : (gs.map str).foldl (fun a b => a ++ b) ⟨#[]⟩ = str gs.flatten := by
  have h : ∀ (gs : List (List Int)) (x : List Int), (gs.map str).foldl (fun a b => a ++ b) (str x) = str (x ++ gs.flatten) := by
    intro gs
    induction gs with
    | nil => intro x; simp
    | cons g gs ih =>
      intro x
      have e : str x ++ str g = str (x ++ g) := same_bytes (by rw [ByteArray.data_append, Array.toList_append, str_data, str_data, str_data, encL_append])
      rw [List.map_cons, List.foldl_cons, e, ih]
      simp
  have := h gs []
  rw [List.nil_append] at this
  exact this

end Cl
end Go.Proofs.YtcljmmadimldlaaDoor
