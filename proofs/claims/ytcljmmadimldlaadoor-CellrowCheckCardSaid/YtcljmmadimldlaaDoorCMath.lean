/-
  The widths of characters as plain mathematics on numbers: the ranges of the chapter, the width of a number, and sums of widths.
-/
namespace Go.Proofs.YtcljmmadimldlaaDoor.Cw

/-- r is in the range p. -/
def hit (p : Int × Int) (r : Int) : Bool := decide (p.1 ≤ r) && decide (r ≤ p.2)
/-- r is in one of the ranges. -/
def hits (ps : List (Int × Int)) (r : Int) : Bool := ps.any fun p => hit p r
def wide : List (Int × Int) :=
  [(4352, 4447), (11904, 12350), (12353, 13311), (13312, 19903), (19968, 40959), (40960, 42191), (44032, 55203), (63744, 64255), (65072, 65135), (65280, 65376), (65504, 65510), (127744, 128591), (129280, 129535), (131072, 262141)]
def marks : List (Int × Int) :=
  [(768, 879), (6832, 6911), (7616, 7679), (8203, 8207), (8400, 8447), (65024, 65039), (65056, 65071)]
def ctl (r : Int) : Bool := decide (r < 32) || (decide (127 ≤ r) && decide (r ≤ 159))
/-- The width of a number. -/
def wd (r : Int) : Int := if ctl r = true then -1 else if hits marks r = true then 0 else if hits wide r = true then 2 else 1

theorem hits_of {ps : List (Int × Int)} {r : Int} (k : Nat) (hk : k < ps.length) (h : hit (ps.getD k (0, 0)) r = true) : hits ps r = true := by
  unfold hits
  rw [List.any_eq_true]
  refine ⟨ps[k], List.getElem_mem hk, ?_⟩
  simpa [List.getD_eq_getElem?_getD, hk] using h
theorem hits_none {ps : List (Int × Int)} {r : Int} (h : ∀ k, k < ps.length → hit (ps.getD k (0, 0)) r = false) : hits ps r = false := by
  unfold hits
  rw [List.any_eq_false]
  intro p hp
  obtain ⟨k, hk, rfl⟩ := List.mem_iff_getElem.1 hp
  have := h k hk
  simp [List.getD_eq_getElem?_getD, hk] at this
  simp [this]

theorem hits_marks (r : Int) : hits marks r = true ↔ (768 ≤ r ∧ r ≤ 879) ∨ (6832 ≤ r ∧ r ≤ 6911) ∨ (7616 ≤ r ∧ r ≤ 7679) ∨ (8203 ≤ r ∧ r ≤ 8207) ∨ (8400 ≤ r ∧ r ≤ 8447) ∨ (65024 ≤ r ∧ r ≤ 65039) ∨ (65056 ≤ r ∧ r ≤ 65071) := by
  simp [hits, marks, hit]
theorem hits_wide (r : Int) : hits wide r = true ↔ (4352 ≤ r ∧ r ≤ 4447) ∨ (11904 ≤ r ∧ r ≤ 12350) ∨ (12353 ≤ r ∧ r ≤ 13311) ∨ (13312 ≤ r ∧ r ≤ 19903) ∨ (19968 ≤ r ∧ r ≤ 40959) ∨ (40960 ≤ r ∧ r ≤ 42191) ∨ (44032 ≤ r ∧ r ≤ 55203) ∨
    (63744 ≤ r ∧ r ≤ 64255) ∨ (65072 ≤ r ∧ r ≤ 65135) ∨ (65280 ≤ r ∧ r ≤ 65376) ∨ (65504 ≤ r ∧ r ≤ 65510) ∨ (127744 ≤ r ∧ r ≤ 128591) ∨ (129280 ≤ r ∧ r ≤ 129535) ∨ (131072 ≤ r ∧ r ≤ 262141) := by
  simp [hits, wide, hit]
theorem ctl_iff (r : Int) : ctl r = true ↔ r < 32 ∨ (127 ≤ r ∧ r ≤ 159) := by simp [ctl]
theorem wd_ctl {r : Int} (h : ctl r = true) : wd r = -1 := by simp [wd, h]
theorem wd_mark {r : Int} (h : hits marks r = true) : wd r = 0 := by
  have hc : ctl r = false := by
    cases e : ctl r
    · rfl
    · rw [ctl_iff] at e; rw [hits_marks] at h; omega
  simp [wd, h, hc]
theorem wd_wide {r : Int} (h : hits wide r = true) : wd r = 2 := by
  have hc : ctl r = false := by
    cases e : ctl r
    · rfl
    · rw [ctl_iff] at e; rw [hits_wide] at h; omega
  have hm : hits marks r = false := by
    cases e : hits marks r
    · rfl
    · rw [hits_marks] at e; rw [hits_wide] at h; omega
  simp [wd, h, hc, hm]
theorem wd_one {r : Int} (hc : ctl r = false) (hm : hits marks r = false) (hw : hits wide r = false) : wd r = 1 := by simp [wd, hc, hm, hw]
theorem wd_cases (r : Int) : wd r = -1 ∨ wd r = 0 ∨ wd r = 1 ∨ wd r = 2 := by
  unfold wd
  repeat' split
  all_goals simp
theorem wd_two (r : Int) : wd r = 2 ↔ hits wide r = true := by
  constructor
  · intro h
    unfold wd at h
    repeat' split at h
    · omega
    · omega
    · assumption
    · omega
  · exact wd_wide
theorem wd_zero (r : Int) : wd r = 0 ↔ hits marks r = true := by
  constructor
  · intro h
    unfold wd at h
    repeat' split at h
    · omega
    · assumption
    · omega
    · omega
  · exact wd_mark
theorem wd_neg (r : Int) : wd r = -1 ↔ ctl r = true := by
  constructor
  · intro h
    unfold wd at h
    repeat' split at h
    · assumption
    · omega
    · omega
    · omega
  · exact wd_ctl

/-- The sum of the widths of numbers; control characters count as 0. -/
def total : List Int → Int
  | [] => 0
  | r :: l => max (wd r) 0 + total l
theorem total_append (a b : List Int) : total (a ++ b) = total a + total b := by
  induction a with
  | nil => simp [total]
  | cons r a ih => simp only [List.cons_append, total, ih]; omega
theorem total_snoc (a : List Int) (r : Int) : total (a ++ [r]) = total a + max (wd r) 0 := by
  rw [total_append]; simp [total]
theorem max_bounds (r : Int) : 0 ≤ max (wd r) 0 ∧ max (wd r) 0 ≤ 2 := by
  rcases wd_cases r with h | h | h | h <;> rw [h] <;> decide
theorem total_bounds (a : List Int) : 0 ≤ total a ∧ total a ≤ 2 * a.length := by
  induction a with
  | nil => simp [total]
  | cons r a ih =>
    have := max_bounds r
    simp only [total, List.length_cons]
    omega
theorem take_succ (l : List Int) (k : Nat) (hk : k < l.length) : l.take (k + 1) = l.take k ++ [l.getD k 0] := by
  rw [List.take_succ_eq_append_getElem hk]
  simp [List.getD_eq_getElem?_getD, hk]
theorem total_take (l : List Int) (k : Nat) (hk : k < l.length) : total (l.take (k + 1)) = total (l.take k) + max (wd (l.getD k 0)) 0 := by
  rw [take_succ l k hk, total_snoc]
theorem total_take_bounds (l : List Int) (k : Nat) : 0 ≤ total (l.take k) ∧ total (l.take k) ≤ 2 * (k : Int) := by
  have := total_bounds (l.take k)
  have h : (l.take k).length ≤ k := by rw [List.length_take]; omega
  omega

end Go.Proofs.YtcljmmadimldlaaDoor.Cw
