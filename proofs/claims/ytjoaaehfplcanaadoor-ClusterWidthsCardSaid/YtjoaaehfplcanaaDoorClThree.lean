/-
  Plain mathematics for the statements of layer 3: how many characters a Split has, sums of widths, the clusters of decoded clusters.
-/
import Derived.Test.YtjoaaehfplcanaaDoorClMore
namespace Go.Proofs.YtjoaaehfplcanaaDoor
namespace Cl
open U8 (fix encL enc1 run)

theorem flat_full (o : List (List Int)) (c : List Int) : (full (o, c)).flatten.length = o.flatten.length + c.length := by
  unfold full
  by_cases hc : c = []
  · rw [if_pos hc, hc]; simp
  · rw [if_neg hc]; simp
theorem step_total (st : List (List Int) × List Int) (r : Int) :
    (full (step st r)).flatten.length + (if (step st r).2 = [] then 1 else 0) ≤ (full st).flatten.length + (if st.2 = [] then 1 else 0) + 1 := by
  obtain ⟨o, c⟩ := st
  cases hm : isMark r
  · cases hb : isBase r
    · rw [step_ctl _ hm hb]; omega
    · rw [step_base _ hb, flat_full]
      rw [if_neg (by simp)]
      simp only [List.length_cons, List.length_nil]
      omega
  · by_cases hc : c = []
    · subst hc
      rw [step_first o hm, flat_full, flat_full, if_neg (by simp), if_pos rfl]
      simp only [List.length_cons, List.length_nil]
      omega
    · by_cases hl : c.length < 4
      · rw [step_room o hm hc hl, flat_full, flat_full, if_neg (by simp), if_neg hc]
        simp only [List.length_append, List.length_cons, List.length_nil]
        omega
      · rw [step_full o hm hc hl]; omega
theorem go_total (l : List Int) : ∀ st : List (List Int) × List Int,
    (full (go st l)).flatten.length + (if (go st l).2 = [] then 1 else 0) ≤ (full st).flatten.length + (if st.2 = [] then 1 else 0) + l.length := by
  induction l with
  | nil => intro st; rw [go_nil, List.length_nil]; omega
  | cons r l ih =>
    intro st
    have h1 := ih (step st r)
    have h2 := step_total st r
    rw [go_cons, List.length_cons]
    omega
theorem split_total (l : List Int) : (split l).flatten.length ≤ l.length + 1 := by
  have h := go_total l ([], [])
  rw [full_start, if_pos rfl] at h
  simp only [List.flatten_nil, List.length_nil] at h
  unfold split
  omega

/-- The characters of a Split, decoded, split into the same strings. -/
theorem split_again_str (l : List Int) : (split ((split l).flatten.map fix)).map str = (split l).map str := by
  rw [split_again, List.map_map]
  apply List.map_congr_left
  intro g _
  exact str_fix g

theorem widths_take (gs : List (List Int)) (k : Nat) (hk : k < gs.length) : widths (gs.take (k + 1)) = widths (gs.take k) + widthOf (gs.getD k []) := by
  rw [List.take_succ_eq_append_getElem hk, widths_append, widths_one]
  simp [List.getD_eq_getElem?_getD, hk]
theorem widths_bounds (gs : List (List Int)) : -(gs.length : Int) ≤ widths gs ∧ widths gs ≤ 2 * (gs.length : Int) := by
  induction gs with
  | nil => simp [widths]
  | cons g gs ih =>
    have h := widthOf_bounds g
    have e : widths (g :: gs) = widthOf g + widths gs := by simp [widths]
    rw [e]
    simp only [List.length_cons, Int.natCast_add, Int.natCast_one]
    omega

/-- Control characters up to place k, and then the end or a base. -/
theorem apart_at (b : List Int) (k : Nat) (hk : k ≤ b.length) (h1 : ∀ j, j < k → Cw.wd (b.getD j 0) = -1) (h2 : k = b.length ∨ isBase (b.getD k 0) = true) : Apart b := by
  refine ⟨b.take k, b.drop k, (List.take_append_drop k b).symm, fun r hr => ?_, ?_⟩
  · obtain ⟨j, hj, rfl⟩ := List.mem_iff_getElem.1 hr
    rw [List.length_take] at hj
    have := h1 j (by omega)
    have hjb : j < b.length := by omega
    simpa [List.getD_eq_getElem?_getD, hjb] using this
  · by_cases hkb : k < b.length
    · right
      rcases h2 with h2 | h2
      · omega
      · refine ⟨b[k], b.drop (k + 1), List.drop_eq_getElem_cons hkb, ?_⟩
        simpa [List.getD_eq_getElem?_getD, hkb] using h2
    · left
      exact List.drop_of_length_le (by omega)

/-- The marks among the first characters. -/
def marksIn (xs : List Int) (k : Nat) : List Int := (xs.take k).filter isMark
theorem marksIn_succ (xs : List Int) (k : Nat) (hk : k < xs.length) : marksIn xs (k + 1) = if isMark (xs.getD k 0) = true then marksIn xs k ++ [xs.getD k 0] else marksIn xs k := by
  unfold marksIn
  rw [Cw.take_succ xs k hk, List.filter_append]
  split
  · rename_i h; rw [List.filter_cons, if_pos h]; rfl
  · rename_i h; rw [List.filter_cons, if_neg h]; simp
theorem marksIn_len (xs : List Int) (k : Nat) : (marksIn xs k).length ≤ k := by
  unfold marksIn
  have h1 := List.length_filter_le isMark (xs.take k)
  have h2 : (xs.take k).length ≤ k := by rw [List.length_take]; omega
  omega
theorem marksIn_marks (xs : List Int) (k : Nat) : ∀ m ∈ marksIn xs k, isMark m = true := fun _ hm => (List.mem_filter.1 hm).2
/-- A base with at most three of the marks. -/
theorem good_take {b : Int} {ms : List Int} (hb : isBase b = true) (hm : ∀ m ∈ ms, isMark m = true) : Good (b :: ms.take 3) :=
  ⟨b, ms.take 3, rfl, hb, (fun m h => hm m (List.mem_of_mem_take h)), by rw [List.length_take]; omega⟩
/-- Attaching one more mark. -/
theorem attach_more {b r : Int} {ms : List Int} (hb : isBase b = true) (hm : ∀ m ∈ ms, isMark m = true) (hr : isMark r = true) :
    attE (encL (b :: ms.take 3)) r = (if ms.length < 3 then 0 else 5) ∧
    (ms.length < 3 → attS (str (b :: ms.take 3)) r = str (b :: (ms ++ [r]).take 3)) ∧ (¬ ms.length < 3 → str (b :: (ms ++ [r]).take 3) = str (b :: ms.take 3)) := by
  have hg := good_parts (good_take hb hm)
  have hE : attE (encL (b :: ms.take 3)) r = if ms.length < 3 then 0 else 5 := by
    unfold attE
    rw [if_neg (by rw [hg.1]; simp), if_neg (by rw [hr]; simp), hg.2.2.1]
    simp only [List.map_cons, List.tail_cons, List.length_map, List.length_take]
    by_cases h3 : ms.length < 3
    · rw [if_neg (by omega), if_pos h3]
    · rw [if_pos (by omega), if_neg h3]
  refine ⟨hE, fun h3 => ?_, fun h3 => ?_⟩
  · unfold attS
    rw [str_data, hE, if_pos h3, if_pos rfl, ← str_snoc]
    rw [List.take_of_length_le (by omega), List.take_of_length_le (by simp; omega)]
    rfl
  · rw [List.take_append_of_le_length (by omega)]

end Cl
end Go.Proofs.YtjoaaehfplcanaaDoor
