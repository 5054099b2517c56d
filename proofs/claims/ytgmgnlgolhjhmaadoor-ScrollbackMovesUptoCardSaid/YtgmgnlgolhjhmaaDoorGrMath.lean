/-
  Plain mathematics of layer 8: grids as lists of rows, and what the functions that change a grid return (no program here).
-/
import Derived.Test.YtgmgnlgolhjhmaaDoorCrMore
namespace Go.Proofs.YtgmgnlgolhjhmaaDoor
open Cr
namespace Gd

def sizeOk (W H : Int) : Prop := 1 ≤ W ∧ W ≤ 132 ∧ 1 ≤ H ∧ H ≤ 60
instance (W H : Int) : Decidable (sizeOk W H) := by unfold sizeOk; exact inferInstance
def rowsE (W : Int) : List (List C) → Nat
  | [] => 0
  | l :: r => if (l.length : Int) ≠ W then 12 else if check l ≠ 0 then check l else rowsE W r
/-- Why a grid is not proper (0: it is). -/
def gE (W H : Int) (L : List (List C)) : Nat := if ¬ sizeOk W H then 2 else if (L.length : Int) ≠ H then 1 else rowsE W L
theorem rowsE_zero {W : Int} {L : List (List C)} : rowsE W L = 0 ↔ ∀ l ∈ L, (l.length : Int) = W ∧ check l = 0 := by
  induction L with
  | nil => simp [rowsE]
  | cons l r ih =>
    unfold rowsE
    by_cases h1 : (l.length : Int) ≠ W
    · rw [if_pos h1]
      constructor
      · intro h; cases h
      · intro h; exact absurd (h l (by simp)).1 h1
    · rw [if_neg h1]
      by_cases h2 : check l ≠ 0
      · rw [if_pos h2]
        constructor
        · intro h; exact absurd h h2
        · intro h; exact absurd (h l (by simp)).2 h2
      · rw [if_neg h2, ih]
        constructor
        · intro h x hx
          rcases List.mem_cons.1 hx with rfl | hx
          · exact ⟨by omega, by omega⟩
          · exact h x hx
        · intro h x hx; exact h x (List.mem_cons_of_mem _ hx)
/-- A proper grid of w columns and h rows. -/
def Good (w h : Nat) (L : List (List C)) : Prop := 1 ≤ w ∧ w ≤ 132 ∧ 1 ≤ h ∧ h ≤ 60 ∧ L.length = h ∧ ∀ l ∈ L, l.length = w ∧ Pr l
theorem gE_good {W H : Int} {L : List (List C)} (h : gE W H L = 0) : ∃ w h : Nat, W = (w : Int) ∧ H = (h : Int) ∧ Good w h L := by
  unfold gE at h
  split at h
  · cases h
  · split at h
    · cases h
    · rename_i h1 h2
      have h1' : sizeOk W H := by
        by_cases e : sizeOk W H
        · exact e
        · exact absurd e h1
      obtain ⟨a1, a2, a3, a4⟩ := h1'
      refine ⟨W.toNat, H.toNat, by omega, by omega, by omega, by omega, by omega, by omega, by omega, fun l hl => ?_⟩
      have h3 := rowsE_zero.1 h l hl
      exact ⟨by omega, (check_zero.1 h3.2).2.2⟩
theorem good_gE {w h : Nat} {L : List (List C)} (g : Good w h L) : gE (w : Int) (h : Int) L = 0 := by
  obtain ⟨a1, a2, a3, a4, a5, a6⟩ := g
  unfold gE
  rw [if_neg (by intro e; exact e ⟨by omega, by omega, by omega, by omega⟩), if_neg (by omega), rowsE_zero]
  intro l hl
  have := a6 l hl
  exact ⟨by omega, check_good this.2 (by omega) (by omega)⟩
theorem Good.row {w h : Nat} {L : List (List C)} (g : Good w h L) {j : Nat} {l : List C} (hj : L[j]? = some l) : l.length = w ∧ Pr l := g.2.2.2.2.2 l (List.mem_of_getElem? hj)
theorem Good.chk {w h : Nat} {L : List (List C)} (g : Good w h L) {l : List C} (hl : l ∈ L) : check l = 0 := by
  have := g.2.2.2.2.2 l hl
  exact check_good this.2 (by have := g.1; omega) (by have := g.2.1; omega)

/-- Texts are short. -/
def SmR (L : List (List C)) : Prop := ∀ l ∈ L, Sm l
theorem SmR.app {L M : List (List C)} (a : SmR L) (b : SmR M) : SmR (L ++ M) := fun l hl => by rcases List.mem_append.1 hl with h | h; exact a l h; exact b l h
theorem SmR.take {L : List (List C)} (a : SmR L) (k : Nat) : SmR (L.take k) := fun l hl => a l (List.mem_of_mem_take hl)
theorem SmR.drop {L : List (List C)} (a : SmR L) (k : Nat) : SmR (L.drop k) := fun l hl => a l (List.mem_of_mem_drop hl)
theorem SmR.bl (k n : Nat) (b : Int) : SmR (List.replicate k (blanks n b)) := fun l hl => by rw [List.eq_of_mem_replicate hl]; exact Sm.blanks _ _
theorem SmR.set {L : List (List C)} (a : SmR L) (k : Nat) {l : List C} (h : Sm l) : SmR (L.set k l) := fun x hx => by
  rcases List.mem_or_eq_of_mem_set hx with h' | rfl
  · exact a x h'
  · exact h
theorem SmR.nil : SmR [] := fun l hl => by cases hl

/-- Rows t to b - 1 moved up by u, or down by d (one of them is 0). -/
def scr (L : List (List C)) (t b u d : Nat) (bl : List C) : List (List C) :=
  L.take t ++ List.replicate d bl ++ (L.drop (t + u)).take (b - d - (t + u)) ++ List.replicate u bl ++ L.drop b
def out (L : List (List C)) (t u : Nat) : List (List C) := (L.drop t).take u
def clr (L : List (List C)) (f t : Nat) (bl : List C) : List (List C) := L.take f ++ List.replicate (t - f) bl ++ L.drop t
def rsz (L : List (List C)) (w h : Nat) : List (List C) := (L.take (min h L.length)).map (fun l => fit l w) ++ List.replicate (h - min h L.length) (blanks w (-1))

theorem scr_length {L : List (List C)} {t b u d : Nat} (bl : List C) (h1 : t < b) (h2 : b ≤ L.length) (h3 : u + d ≤ b - t) : (scr L t b u d bl).length = L.length := by
  unfold scr
  simp only [List.length_append, List.length_take, List.length_drop, List.length_replicate]
  omega
theorem out_length {L : List (List C)} {t b u : Nat} (h1 : t < b) (h2 : b ≤ L.length) (h3 : u ≤ b - t) : (out L t u).length = u := by
  unfold out
  simp only [List.length_take, List.length_drop]
  omega
theorem blank_good (w : Nat) (b : Int) : (blanks w b).length = w ∧ Pr (blanks w b) := ⟨blanks_length _ _, blanks_Pr _ _⟩
theorem Good.scr {w h : Nat} {L : List (List C)} (g : Good w h L) {t b u d : Nat} (c : Int) (h1 : t < b) (h2 : b ≤ h) (h3 : u + d ≤ b - t) : Good w h (scr L t b u d (blanks w c)) := by
  obtain ⟨a1, a2, a3, a4, a5, a6⟩ := g
  refine ⟨a1, a2, a3, a4, by rw [scr_length _ h1 (by omega) h3]; exact a5, fun l hl => ?_⟩
  unfold Gd.scr at hl
  simp only [List.mem_append] at hl
  rcases hl with (((hl | hl) | hl) | hl) | hl
  · exact a6 l (List.mem_of_mem_take hl)
  · rw [List.eq_of_mem_replicate hl]; exact blank_good _ _
  · exact a6 l (List.mem_of_mem_drop (List.mem_of_mem_take hl))
  · rw [List.eq_of_mem_replicate hl]; exact blank_good _ _
  · exact a6 l (List.mem_of_mem_drop hl)
theorem SmR.scr {L : List (List C)} (a : SmR L) (t b u d w : Nat) (c : Int) : SmR (scr L t b u d (blanks w c)) :=
  ((((a.take _).app (SmR.bl _ _ _)).app ((a.drop _).take _)).app (SmR.bl _ _ _)).app (a.drop _)
theorem Good.clr {w h : Nat} {L : List (List C)} (g : Good w h L) {f t : Nat} (c : Int) (h1 : f ≤ t) (h2 : t ≤ h) : Good w h (clr L f t (blanks w c)) := by
  obtain ⟨a1, a2, a3, a4, a5, a6⟩ := g
  refine ⟨a1, a2, a3, a4, ?_, fun l hl => ?_⟩
  · unfold Gd.clr
    simp only [List.length_append, List.length_take, List.length_drop, List.length_replicate]
    omega
  · unfold Gd.clr at hl
    simp only [List.mem_append] at hl
    rcases hl with (hl | hl) | hl
    · exact a6 l (List.mem_of_mem_take hl)
    · rw [List.eq_of_mem_replicate hl]; exact blank_good _ _
    · exact a6 l (List.mem_of_mem_drop hl)
theorem SmR.clr {L : List (List C)} (a : SmR L) (f t w : Nat) (c : Int) : SmR (clr L f t (blanks w c)) := ((a.take _).app (SmR.bl _ _ _)).app (a.drop _)
theorem rsz_length (L : List (List C)) (w h : Nat) : (rsz L w h).length = h := by
  unfold rsz
  simp only [List.length_append, List.length_map, List.length_take, List.length_replicate]
  omega
theorem Good.rsz {w h : Nat} {L : List (List C)} (g : Good w h L) {v k : Nat} (h1 : 1 ≤ v) (h2 : v ≤ 132) (h3 : 1 ≤ k) (h4 : k ≤ 60) : Good v k (rsz L v k) := by
  refine ⟨h1, h2, h3, h4, rsz_length _ _ _, fun l hl => ?_⟩
  unfold Gd.rsz at hl
  rcases List.mem_append.1 hl with hl | hl
  · obtain ⟨x, hx, rfl⟩ := List.mem_map.1 hl
    exact ⟨fit_length _ _, fit_Pr (g.2.2.2.2.2 x (List.mem_of_mem_take hx)).2 _⟩
  · rw [List.eq_of_mem_replicate hl]; exact blank_good _ _
theorem SmR.rsz {L : List (List C)} (a : SmR L) (w h : Nat) : SmR (rsz L w h) := by
  refine SmR.app (fun l hl => ?_) (SmR.bl _ _ _)
  obtain ⟨x, hx, rfl⟩ := List.mem_map.1 hl
  exact (a x (List.mem_of_mem_take hx)).fit _
theorem Good.set {w h : Nat} {L : List (List C)} (g : Good w h L) (k : Nat) {l : List C} (h1 : l.length = w) (h2 : Pr l) : Good w h (L.set k l) := by
  obtain ⟨a1, a2, a3, a4, a5, a6⟩ := g
  refine ⟨a1, a2, a3, a4, by rw [List.length_set]; exact a5, fun x hx => ?_⟩
  rcases List.mem_or_eq_of_mem_set hx with h' | rfl
  · exact a6 x h'
  · exact ⟨h1, h2⟩

/-- What a function that changes a grid returns. -/
structure Res where
  E : Nat
  W : Int
  H : Int
  L : List (List C)
  M : List (List C)
def bad (e : Nat) : Res := ⟨e, 0, 0, [], []⟩
def newR (W H : Int) : Res := if sizeOk W H then ⟨0, W, H, List.replicate H.toNat (blanks W.toNat (-1)), []⟩ else bad 2
/-- The distance, limited to the range. -/
def lim (t b d : Int) : Int := max (-(b - t)) (min d (b - t))
def scrollR (W H : Int) (L : List (List C)) (t b d c : Int) : Res :=
  if gE W H L ≠ 0 then bad 1 else if ¬ (0 ≤ t ∧ t < b ∧ b ≤ H) then bad 2 else
    ⟨0, W, H, scr L t.toNat b.toNat (max (lim t b d) 0).toNat (max (-(lim t b d)) 0).toNat (blanks W.toNat c), out L t.toNat (max (lim t b d) 0).toNat⟩
def setR (W H : Int) (L : List (List C)) (row : Int) (l : List C) : Res :=
  if gE W H L ≠ 0 then bad 1 else if ¬ (0 ≤ row ∧ row < H) then bad 2 else if check l ≠ 0 then bad (check l) else if (l.length : Int) ≠ W then bad 12 else ⟨0, W, H, L.set row.toNat l, []⟩
def clearR (W H : Int) (L : List (List C)) (f t c : Int) : Res :=
  if gE W H L ≠ 0 then bad 1 else if ¬ (0 ≤ f ∧ f ≤ t ∧ t ≤ H) then bad 2 else ⟨0, W, H, clr L f.toNat t.toNat (blanks W.toNat c), []⟩
def resizeR (W H : Int) (L : List (List C)) (w h : Int) : Res :=
  if gE W H L ≠ 0 then bad 1 else if ¬ sizeOk w h then bad 2 else ⟨0, w, h, rsz L w.toNat h.toNat, []⟩

end Gd
end Go.Proofs.YtgmgnlgolhjhmaaDoor
