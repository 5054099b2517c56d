/-
  More plain mathematics of layer 7: fitting twice, inserting and deleting, erasing in steps, what is read behind a change; sizes of the texts.
-/
import Derived.Test.YtgmgnlgolhjhmaaDoorCrFit
namespace Go.Proofs.YtgmgnlgolhjhmaaDoor
open Cr
namespace Cr

theorem blanks_Pr (n : Nat) (b : Int) : Pr (blanks n b) := Pr.blanks n b
theorem fit_self {l : List C} (h : Pr l) : fit l l.length = l := by
  unfold fit
  rw [Nat.min_self, Nat.sub_self, List.take_length, cutL_proper h]
  simp [blanks]
theorem fit_long {l : List C} (h : Pr l) {w : Nat} (hw : l.length ≤ w) : fit l w = l ++ blanks (w - l.length) (-1) := by
  unfold fit
  rw [Nat.min_eq_right hw, List.take_length, cutL_proper h]
theorem fit_short {l : List C} {w : Nat} (hw : w ≤ l.length) : fit l w = cutL (l.take w) := by
  unfold fit
  rw [Nat.min_eq_left hw, Nat.sub_self]
  simp [blanks]
theorem fit_fit {l : List C} (h : Pr l) {w v : Nat} (hv : v ≤ w) : fit (fit l w) v = fit l v := by
  rw [fit_short (l := fit l w) (by rw [fit_length]; exact hv)]
  rcases Nat.lt_or_ge l.length w with hw | hw
  · rw [fit_long h (by omega)]
    rcases Nat.lt_or_ge l.length v with hl | hl
    · rw [fit_long h (by omega), List.take_append, List.take_of_length_le (by omega)]
      have e : (blanks (w - l.length) (-1)).take (v - l.length) = blanks (v - l.length) (-1) := by
        unfold blanks
        rw [List.take_replicate, Nat.min_eq_left (by omega)]
      rw [e, cutL_proper (h.app (blanks_Pr _ _))]
    · rw [fit_short hl, List.take_append_of_le_length hl]
  · rw [fit_short hw, fit_short (by omega)]
    rcases Nat.lt_or_ge v w with hl | hl
    · rw [cutL_take hl hw]
    · have e : v = w := by omega
      subst e
      rw [List.take_of_length_le (by rw [cutL_length, List.length_take]; omega), cutL_twice]

/-- The texts of a row are short. -/
def Sm (l : List C) : Prop := ∀ x ∈ l, x.t.size ≤ 300
theorem Sm.app {a b : List C} (ha : Sm a) (hb : Sm b) : Sm (a ++ b) := fun x hx => by rcases List.mem_append.1 hx with h | h; exact ha x h; exact hb x h
theorem Sm.take {a : List C} (ha : Sm a) (k : Nat) : Sm (a.take k) := fun x hx => ha x (List.mem_of_mem_take hx)
theorem Sm.drop {a : List C} (ha : Sm a) (k : Nat) : Sm (a.drop k) := fun x hx => ha x (List.mem_of_mem_drop hx)
theorem Sm.blanks (n : Nat) (b : Int) : Sm (blanks n b) := fun x hx => by
  have := List.eq_of_mem_replicate hx
  subst this
  show (1 : Nat) ≤ 300
  decide
theorem Sm.nil : Sm [] := fun x hx => by cases hx
theorem Sm.cutL {a : List C} (ha : Sm a) : Sm (cutL a) := by
  rcases List.eq_nil_or_concat a with rfl | ⟨m, c, rfl⟩
  · exact Sm.nil
  · rw [List.concat_eq_append] at ha ⊢
    rw [cutL_snoc]
    refine Sm.app (fun x hx => ha x (List.mem_append_left _ hx)) (fun x hx => ?_)
    rw [List.mem_singleton] at hx
    subst hx
    split
    · show (1 : Nat) ≤ 300
      decide
    · exact ha c (by simp)
theorem Sm.cutR {a : List C} (ha : Sm a) : Sm (cutR a) := by
  cases a with
  | nil => exact Sm.nil
  | cons c r =>
    intro x hx
    simp only [Cr.cutR, List.mem_cons] at hx
    rcases hx with rfl | hx
    · split
      · show (1 : Nat) ≤ 300
        decide
      · exact ha c (by simp)
    · exact ha x (by simp [hx])
theorem Sm.fit {l : List C} (h : Sm l) (w : Nat) : Sm (fit l w) := (h.take _).cutL.app (Sm.blanks _ _)
end Cr
theorem Sm_fitL {l : List C} (h : Sm l) (x : Int) : Sm (fitL l x) := by
  unfold fitL
  split
  · exact h.fit _
  · exact Sm.nil

end Go.Proofs.YtgmgnlgolhjhmaaDoor
namespace Go.Proofs.YtgmgnlgolhjhmaaDoor
open Go.RowKit Go.Shelf Cr

theorem sm_of {l : List C} (h : great l = false) : Sm l ∧ l.length ≤ 140 := ⟨fun x hx => by have := (great_false h).2 x hx; omega, (great_false h).1⟩
theorem GivesC.len {w w' : World} {A : Option Addr} {n c : Nat} {l : List C} (h : GivesC w w' A n c l) : n = l.length := h.1.1.symm

end Go.Proofs.YtgmgnlgolhjhmaaDoor
namespace Go.Proofs.YtgmgnlgolhjhmaaDoor
open Go.RowKit Go.Shelf Cr

theorem ok_of (t : ByteArray) (r : Int) (h1 : t.data.toList = U8.encL [r]) (h2 : Cl.isBase r = true) : chk t = 0 ∧ wd t = Cl.widthOf [r] := by
  have h := Cl.good_parts (Cl.Good.one h2)
  unfold chk wd
  rw [h1]
  exact ⟨h.1, h.2.2.2⟩
def pl (t : ByteArray) (x : Int) : C := ⟨t, x, -1, -1, 0⟩
theorem pl_narrow {t : ByteArray} (h : chk t = 0 ∧ wd t = 1) : Narrow (pl t 1) := ⟨rfl, h.1, h.2⟩
end Go.Proofs.YtgmgnlgolhjhmaaDoor
