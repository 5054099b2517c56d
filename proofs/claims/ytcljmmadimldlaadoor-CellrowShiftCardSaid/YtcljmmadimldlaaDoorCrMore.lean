/-
  More plain mathematics of layer 7: fitting twice, inserting and deleting, erasing in steps, what is read behind a change; sizes of the texts.
-/
import Derived.Test.YtcljmmadimldlaaDoorCrFit
namespace Go.Proofs.YtcljmmadimldlaaDoor
open Cr
namespace Cr

theorem blanks_Pr (n : Nat) (b : Int) : Pr (blanks n b) := Pr.blanks n b
theorem fit_self {l : List C} (h : Pr l) : fit l l.length = l := by
  unfold fit
  rw [Nat.min_self, Nat.sub_self, List.take_length, cutL_proper h]
  simp [blanks]
theorem fit_long {l : List C} (h : Pr l) {w : Nat} (hw : l.length ≤ w) : fit l w = l ++ blanks (w - l.length) (-1) := by
  unfold fit
  rw [Nat.min_eq_right hw, List.take_length, cutL_proper h]
theorem fit_short {l : List C} {w : Nat} (hw : w ≤ l.length) : fit l w = cutL (l.take w) := by
  unfold fit
  rw [Nat.min_eq_left hw, Nat.sub_self]
  simp [blanks]
theorem fit_fit {l : List C} (h : Pr l) {w v : Nat} (hv : v ≤ w) : fit (fit l w) v = fit l v := by
  rw [fit_short (l := fit l w) (by rw [fit_length]; exact hv)]
  rcases Nat.lt_or_ge l.length w with hw | hw
  · rw [fit_long h (by omega)]
    rcases Nat.lt_or_ge l.length v with hl | hl
    · rw [fit_long h (by omega), List.take_append, List.take_of_length_le (by omega)]
      have e : (blanks (w - l.length) (-1)).take (v - l.length) = blanks (v - l.length) (-1) := by
        unfold blanks
        rw [List.take_replicate, Nat.min_eq_left (by omega)]
      rw [e, cutL_proper (h.app (blanks_Pr _ _))]
    · rw [fit_short hl, List.take_append_of_le_length hl]
  · rw [fit_short hw, fit_short (by omega)]
    rcases Nat.lt_or_ge v w with hl | hl
    · rw [cutL_take hl hw]
    · have e : v = w := by omega
      subst e
      rw [List.take_of_length_le (by rw [cutL_length, List.length_take]; omega), cutL_twice]

theorem even_cut {l : List C} (h : Pr l) {k : Nat} {c : C} (hc : l[k]? = some c) (hw : c.w ≠ 0) : Pr (l.take k) ∧ Pr (l.drop k) := by
  have hk : k < l.length := by
    rcases Nat.lt_or_ge k l.length with h' | h'
    · exact h'
    · rw [List.getElem?_eq_none h'] at hc; cases hc
  rcases cut h k (by omega) with ⟨a, b, rfl, h1, h2, h3⟩ | ⟨a, p, b, rfl, h1, h2, h3, h4⟩
  · rw [← h1, List.take_left' rfl, List.drop_left' rfl]
    exact ⟨h2, h3⟩
  · have e : (a ++ p :: half p :: b)[k]? = some (half p) := by
      rw [← h1, List.getElem?_append_right (by omega)]
      simp
    rw [e] at hc
    injection hc with hc
    exact absurd (by rw [← hc]; rfl) hw
theorem ins_del {l : List C} (h : Pr l) {k m : Nat} {c : C} (hc : l[k]? = some c) (hw : c.w ≠ 0) (hm : 1 ≤ m) (hkm : k + m ≤ l.length) (a b : Int) : del (ins l k m a) k m b = repl l (l.length - m) l.length (blanks m b) := by
  obtain ⟨hA, hB⟩ := even_cut h hc hw
  have hAl : (l.take k).length = k := by rw [List.length_take]; omega
  have e1 : ins l k m a = l.take k ++ (blanks m a ++ cutL ((l.drop k).take (l.length - m - k))) := by
    unfold ins
    rw [cutL_proper hA, cutR_proper hB, List.append_assoc]
  have hM : Pr (cutL ((l.drop k).take (l.length - m - k))) := cutL_Pr hB _
  have e2 : (ins l k m a).take k = l.take k := by rw [e1, List.take_left' hAl]
  have e3 : (ins l k m a).drop (k + m) = cutL ((l.drop k).take (l.length - m - k)) := by
    rw [e1, ← List.append_assoc, List.drop_left' (by rw [List.length_append, hAl, blanks_length])]
  unfold del repl
  rw [e2, e3, cutL_proper hA, cutR_proper hM, List.drop_of_length_le (Nat.le_refl _)]
  have e4 : l.take (l.length - m) = l.take k ++ (l.drop k).take (l.length - m - k) := by
    rw [← List.take_append_drop k (l.take (l.length - m)), List.take_take, Nat.min_eq_left (by omega), List.drop_take]
  have e5 : cutL (l.take (l.length - m)) = l.take k ++ cutL ((l.drop k).take (l.length - m - k)) := by
    rw [e4]
    by_cases hz : l.length - m - k = 0
    · rw [hz, List.take_zero, List.append_nil, cutL_nil, List.append_nil, cutL_proper hA]
    · refine cutL_app _ _ (fun e => ?_)
      have := congrArg List.length e
      rw [List.length_take, List.length_drop, List.length_nil] at this
      omega
  rw [e5]
  simp [cutR]

theorem repl_repl {l : List C} (h : Pr l) {i j k : Nat} (hij : i < j) (hjk : j < k) (hk : k ≤ l.length) (b : Int) : repl (repl l i j (blanks (j - i) b)) j k (blanks (k - j) b) = repl l i k (blanks (k - i) b) := by
  have hL : (cutL (l.take i) ++ blanks (j - i) b).length = j := by rw [List.length_append, cutL_length, List.length_take, blanks_length]; omega
  have e1 : (repl l i j (blanks (j - i) b)).take j = cutL (l.take i) ++ blanks (j - i) b := by unfold repl; rw [List.take_left' hL]
  have e2 : (repl l i j (blanks (j - i) b)).drop k = l.drop k := by
    unfold repl
    rw [List.drop_append, hL, List.drop_of_length_le (by omega), List.nil_append, cutR_drop _ (by omega), List.drop_drop]
    congr 1; omega
  have e3 : blanks (j - i) b ++ blanks (k - j) b = blanks (k - i) b := by
    unfold blanks
    rw [List.replicate_append_replicate]
    congr 1; omega
  have e4 : repl (repl l i j (blanks (j - i) b)) j k (blanks (k - j) b) = cutL ((repl l i j (blanks (j - i) b)).take j) ++ blanks (k - j) b ++ cutR ((repl l i j (blanks (j - i) b)).drop k) := rfl
  rw [e4, e1, e2, cutL_proper ((cutL_Pr h i).app (blanks_Pr _ _)), List.append_assoc (cutL _), e3]
  rfl
theorem repl_all (l : List C) (b : Int) : repl l 0 l.length (blanks l.length b) = blanks l.length b := by
  unfold repl
  rw [List.take_zero, cutL_nil, List.drop_of_length_le (Nat.le_refl _)]
  simp [cutR]

theorem cutL_get {l : List C} {i x : Nat} {c : C} (hx : l[x]? = some c) (hxi : x < i) (hi : i ≤ l.length) : (cutL (l.take i))[x]? = some (if x + 1 = i ∧ c.w = 2 then Cr.blank c.b else c) := by
  rcases List.eq_nil_or_concat (l.take i) with e | ⟨m, d, e⟩
  · have := congrArg List.length e
    rw [List.length_take, List.length_nil] at this
    omega
  · rw [List.concat_eq_append] at e
    have hm : m.length + 1 = i := by
      have := congrArg List.length e
      rw [List.length_take, List.length_append, List.length_singleton] at this
      omega
    have hx' : (m ++ [d])[x]? = some c := by rw [← e, List.getElem?_take, if_pos hxi]; exact hx
    rw [e, cutL_snoc]
    by_cases hl : x + 1 = i
    · have hxm : x = m.length := by omega
      subst hxm
      have : d = c := by simpa using hx'
      subst this
      rw [List.getElem?_append_right (by omega)]
      simp [hl]
    · rw [if_neg (show ¬ (x + 1 = i ∧ c.w = 2) from fun h => hl h.1), List.getElem?_append_left (by omega)]
      rw [List.getElem?_append_left (by omega)] at hx'
      exact hx'
theorem cutR_get {l : List C} {j x : Nat} {c : C} (hx : l[x]? = some c) (hj : j ≤ x) : (cutR (l.drop j))[x - j]? = some (if x = j ∧ c.w = 0 then Cr.blank c.b else c) := by
  have hx' : (l.drop j)[x - j]? = some c := by rw [List.getElem?_drop, ← hx]; congr 1; omega
  cases hd : l.drop j with
  | nil => rw [hd] at hx'; simp at hx'
  | cons d r =>
    rw [hd] at hx'
    simp only [cutR]
    by_cases hxj : x = j
    · subst hxj
      rw [Nat.sub_self] at hx' ⊢
      have : d = c := by simpa using hx'
      subst this
      simp
    · rw [if_neg (show ¬ (x = j ∧ c.w = 0) from fun h => hxj h.1)]
      obtain ⟨q, hq⟩ : ∃ q, x - j = q + 1 := ⟨x - j - 1, by omega⟩
      rw [hq] at hx' ⊢
      simpa using hx'
theorem repl_out {l cs : List C} {i j x : Nat} {c : C} (hij : i ≤ j) (hj : j ≤ l.length) (hcs : cs.length = j - i) (hx : l[x]? = some c) (ho : x < i ∨ j ≤ x) :
    (repl l i j cs)[x]? = some (if (x + 1 = i ∧ c.w = 2) ∨ (x = j ∧ c.w = 0) then Cr.blank c.b else c) := by
  have hL : (cutL (l.take i)).length = i := by rw [cutL_length, List.length_take]; omega
  unfold repl
  rcases ho with ho | ho
  · rw [List.append_assoc, List.getElem?_append_left (by omega), cutL_get hx ho (by omega)]
    have : ¬ (x = j ∧ c.w = 0) := fun h => by omega
    simp only [this, or_false]
  · rw [List.getElem?_append_right (by rw [List.length_append]; omega), List.length_append, hL, hcs]
    have e : x - (i + (j - i)) = x - j := by omega
    rw [e, cutR_get hx ho]
    have : ¬ (x + 1 = i ∧ c.w = 2) := fun h => by omega
    simp only [this, false_or]
theorem repl_in {l cs : List C} {i j x : Nat} (hij : i ≤ j) (hj : j ≤ l.length) (hcs : cs.length = j - i) (h1 : i ≤ x) (h2 : x < j) : (repl l i j cs)[x]? = cs[x - i]? := by
  have hL : (cutL (l.take i)).length = i := by rw [cutL_length, List.length_take]; omega
  unfold repl
  rw [List.getElem?_append_left (by rw [List.length_append]; omega), List.getElem?_append_right (by omega), hL]

/-- The texts of a row are short. -/
def Sm (l : List C) : Prop := ∀ x ∈ l, x.t.size ≤ 300
theorem Sm.app {a b : List C} (ha : Sm a) (hb : Sm b) : Sm (a ++ b) := fun x hx => by rcases List.mem_append.1 hx with h | h; exact ha x h; exact hb x h
theorem Sm.take {a : List C} (ha : Sm a) (k : Nat) : Sm (a.take k) := fun x hx => ha x (List.mem_of_mem_take hx)
theorem Sm.drop {a : List C} (ha : Sm a) (k : Nat) : Sm (a.drop k) := fun x hx => ha x (List.mem_of_mem_drop hx)
theorem Sm.blanks (n : Nat) (b : Int) : Sm (blanks n b) := fun x hx => by
  have := List.eq_of_mem_replicate hx
  subst this
  show (1 : Nat) ≤ 300
  decide
theorem Sm.nil : Sm [] := fun x hx => by cases hx
theorem Sm.cutL {a : List C} (ha : Sm a) : Sm (cutL a) := by
  rcases List.eq_nil_or_concat a with rfl | ⟨m, c, rfl⟩
  · exact Sm.nil
  · rw [List.concat_eq_append] at ha ⊢
    rw [cutL_snoc]
    refine Sm.app (fun x hx => ha x (List.mem_append_left _ hx)) (fun x hx => ?_)
    rw [List.mem_singleton] at hx
    subst hx
    split
    · show (1 : Nat) ≤ 300
      decide
    · exact ha c (by simp)
theorem Sm.cutR {a : List C} (ha : Sm a) : Sm (cutR a) := by
  cases a with
  | nil => exact Sm.nil
  | cons c r =>
    intro x hx
    simp only [Cr.cutR, List.mem_cons] at hx
    rcases hx with rfl | hx
    · split
      · show (1 : Nat) ≤ 300
        decide
      · exact ha c (by simp)
    · exact ha x (by simp [hx])
theorem Sm.cells {t : ByteArray} (h : t.size ≤ 300) (f b g : Int) : Sm (cells t f b g) := by
  unfold Cr.cells
  intro x hx
  split at hx
  · simp at hx
    rcases hx with rfl | rfl
    · exact h
    · show (0 : Nat) ≤ 300
      decide
  · simp at hx
    subst hx
    exact h
theorem Sm.repl {l cs : List C} (h : Sm l) (hc : Sm cs) (i j : Nat) : Sm (repl l i j cs) := ((h.take i).cutL.app hc).app (h.drop j).cutR
theorem Sm.ins {l : List C} (h : Sm l) (i n : Nat) (b : Int) : Sm (ins l i n b) := ((h.take i).cutL.app (Sm.blanks n b)).app ((h.drop i).cutR.take _).cutL
theorem Sm.del {l : List C} (h : Sm l) (i n : Nat) (b : Int) : Sm (del l i n b) := ((h.take i).cutL.app (h.drop _).cutR).app (Sm.blanks n b)
theorem Sm.fit {l : List C} (h : Sm l) (w : Nat) : Sm (fit l w) := (h.take _).cutL.app (Sm.blanks _ _)
end Cr
theorem Sm_putL {l : List C} (h : Sm l) (col : Int) {t : ByteArray} (ht : t.size ≤ 300) (f b g : Int) : Sm (putL l col t f b g) := by
  unfold putL
  split
  · exact Sm.nil
  · exact h.repl (Sm.cells ht f b g) _ _
theorem Sm_insL {l : List C} (h : Sm l) (col n b : Int) : Sm (insL l col n b) := by
  unfold insL
  split
  · exact Sm.nil
  · split
    · exact h
    · exact h.ins _ _ _
theorem Sm_delL {l : List C} (h : Sm l) (col n b : Int) : Sm (delL l col n b) := by
  unfold delL
  split
  · exact Sm.nil
  · split
    · exact h
    · exact h.del _ _ _
theorem Sm_eraL {l : List C} (h : Sm l) (i j b : Int) : Sm (eraL l i j b) := by
  unfold eraL
  split
  · exact Sm.nil
  · split
    · exact h
    · exact h.repl (Sm.blanks _ _) _ _
theorem Sm_fitL {l : List C} (h : Sm l) (x : Int) : Sm (fitL l x) := by
  unfold fitL
  split
  · exact h.fit _
  · exact Sm.nil

end Go.Proofs.YtcljmmadimldlaaDoor
