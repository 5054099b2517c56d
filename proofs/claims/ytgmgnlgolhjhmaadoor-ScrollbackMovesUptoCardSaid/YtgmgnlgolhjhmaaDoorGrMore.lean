/-
  More plain mathematics of layer 8: scrolling in steps and back, resizing twice, row by row.
-/
import Derived.Test.YtgmgnlgolhjhmaaDoorGrMath
namespace Go.Proofs.YtgmgnlgolhjhmaaDoor
open Cr
namespace Gd

theorem scr_get {L : List (List C)} {t b u d : Nat} (bl : List C) (h1 : t < b) (h2 : b ≤ L.length) (h3 : u + d ≤ b - t) (h4 : u = 0 ∨ d = 0) (i : Nat) :
    (scr L t b u d bl)[i]? = if i < t ∨ b ≤ i then L[i]? else if i < t + d ∨ b ≤ i + u then some bl else L[i + u - d]? := by
  have l1 : (L.take t).length = t := by rw [List.length_take]; omega
  have l3 : ((L.drop (t + u)).take (b - d - (t + u))).length = b - d - (t + u) := by rw [List.length_take, List.length_drop]; omega
  unfold scr
  rw [List.append_assoc, List.append_assoc, List.append_assoc]
  rcases Nat.lt_or_ge i t with hi | hi
  · rw [if_pos (.inl hi), List.getElem?_append_left (by omega), List.getElem?_take_of_lt hi]
  rw [List.getElem?_append_right (by omega), l1]
  rcases Nat.lt_or_ge (i - t) d with hd | hd
  · rw [if_neg (by omega), if_pos (.inl (by omega)), List.getElem?_append_left (by rw [List.length_replicate]; exact hd), List.getElem?_replicate, if_pos hd]
  rw [List.getElem?_append_right (by rw [List.length_replicate]; exact hd), List.length_replicate]
  rcases Nat.lt_or_ge (i - t - d) (b - d - (t + u)) with hm | hm
  · rw [if_neg (by omega), if_neg (by omega), List.getElem?_append_left (by omega), List.getElem?_take_of_lt hm, List.getElem?_drop]
    congr 1
    omega
  rw [List.getElem?_append_right (by omega), l3]
  rcases Nat.lt_or_ge (i - t - d - (b - d - (t + u))) u with hu | hu
  · rw [if_neg (by omega), if_pos (.inr (by omega)), List.getElem?_append_left (by rw [List.length_replicate]; exact hu), List.getElem?_replicate, if_pos hu]
  rw [List.getElem?_append_right (by rw [List.length_replicate]; exact hu), List.length_replicate, List.getElem?_drop, if_pos (.inr (by omega))]
  congr 1
  omega
theorem out_get (L : List (List C)) (t u i : Nat) : (out L t u)[i]? = if i < u then L[t + i]? else none := by
  unfold out
  rw [List.getElem?_take]
  split
  · rw [List.getElem?_drop]
  · rfl
theorem scr_scr {L : List (List C)} {t b m n : Nat} (bl : List C) (h1 : t < b) (h2 : b ≤ L.length) (h3 : m + n ≤ b - t) : scr (scr L t b m 0 bl) t b n 0 bl = scr L t b (m + n) 0 bl := by
  have hl := scr_length (L := L) (t := t) (b := b) (u := m) (d := 0) bl h1 h2 (by omega)
  apply List.ext_getElem?
  intro i
  rw [scr_get bl h1 (by omega) (by omega) (.inr rfl), scr_get bl h1 h2 (by omega) (.inr rfl), scr_get (u := m + n) bl h1 h2 (by omega) (.inr rfl)]
  by_cases c1 : i < t ∨ b ≤ i
  · rw [if_pos c1, if_pos c1, if_pos c1]
  · rw [if_neg c1, if_neg c1]
    by_cases c2 : i < t + 0 ∨ b ≤ i + n
    · rw [if_pos c2, if_pos (by omega)]
    · rw [if_neg c2, scr_get bl h1 h2 (by omega) (.inr rfl), if_neg (by omega)]
      by_cases c3 : i < t + 0 ∨ b ≤ i + (m + n)
      · rw [if_pos (by omega), if_pos c3]
      · rw [if_neg (by omega), if_neg c3]
        congr 1
        omega
theorem out_out {L : List (List C)} {t b m n : Nat} (bl : List C) (h1 : t < b) (h2 : b ≤ L.length) (h3 : m + n ≤ b - t) : out L t m ++ out (scr L t b m 0 bl) t n = out L t (m + n) := by
  apply List.ext_getElem?
  intro i
  have hl := out_length (L := L) (t := t) (b := b) (u := m) h1 h2 (by omega)
  rw [out_get]
  rcases Nat.lt_or_ge i m with hi | hi
  · rw [List.getElem?_append_left (by omega), out_get, if_pos hi, if_pos (by omega)]
  · rw [List.getElem?_append_right (by omega), hl, out_get]
    by_cases c : i - m < n
    · rw [if_pos c, if_pos (by omega), scr_get bl h1 h2 (by omega) (.inr rfl), if_neg (by omega), if_neg (by omega)]
      congr 1
      omega
    · rw [if_neg c, if_neg (by omega)]
theorem scr_take {L : List (List C)} {t b u d : Nat} (bl : List C) (h1 : t < b) (h2 : b ≤ L.length) : (scr L t b u d bl).take t = L.take t := by
  unfold scr
  rw [List.append_assoc, List.append_assoc, List.append_assoc, List.take_left' (by rw [List.length_take]; omega)]
theorem scr_drop {L : List (List C)} {t b u d : Nat} (bl : List C) (h1 : t < b) (h2 : b ≤ L.length) (h3 : u + d ≤ b - t) : (scr L t b u d bl).drop b = L.drop b := by
  unfold scr
  rw [List.drop_left' (by simp only [List.length_append, List.length_take, List.length_drop, List.length_replicate]; omega)]
/-- Scrolled up and down again: what is left of the rows. -/
theorem scr_back {L : List (List C)} {t b n : Nat} (bl : List C) (h1 : t < b) (h2 : b ≤ L.length) (h3 : n ≤ b - t) : (scr (scr L t b n 0 bl) t b 0 n bl).drop (t + n) = L.drop (t + n) := by
  have hl := scr_length (L := L) (t := t) (b := b) (u := n) (d := 0) bl h1 h2 (by omega)
  apply List.ext_getElem?
  intro i
  rw [List.getElem?_drop, List.getElem?_drop, scr_get bl h1 (by omega) (by omega) (.inl rfl)]
  by_cases c1 : t + n + i < t ∨ b ≤ t + n + i
  · rw [if_pos c1, scr_get bl h1 h2 (by omega) (.inr rfl), if_pos c1]
  · rw [if_neg c1, if_neg (by omega), scr_get bl h1 h2 (by omega) (.inr rfl), if_neg (by omega), if_neg (by omega)]
    congr 1
    omega
theorem set_join {L Y : List (List C)} {k : Nat} {l : List C} (hk : L[k]? = some l) (hY : Y.length = L.length) : (L.take k ++ Y.drop k).set k l = L.take (k + 1) ++ Y.drop (k + 1) := by
  obtain ⟨hlt, _⟩ := List.getElem?_eq_some_iff.1 hk
  have ht : (L.take k).length = k := by rw [List.length_take]; omega
  rw [List.set_append_right _ _ (by omega), ht, Nat.sub_self, List.drop_eq_getElem_cons (by omega), List.set_cons_zero, List.take_add_one, hk, List.append_assoc]
  rfl
theorem rsz_back {w h : Nat} {L : List (List C)} (g : Good w h L) {v k : Nat} (hv : w ≤ v) (hk : h ≤ k) : rsz (rsz L v k) w h = L := by
  have hl := g.2.2.2.2.1
  have e1 : rsz L v k = L.map (fun l => fit l v) ++ List.replicate (k - h) (blanks v (-1)) := by
    unfold rsz
    rw [hl, Nat.min_eq_right hk, List.take_of_length_le (by omega)]
  have e2 : rsz (rsz L v k) w h = ((rsz L v k).take h).map (fun l => fit l w) := by
    unfold rsz
    rw [show ((L.take (min k L.length)).map (fun l => fit l v) ++ List.replicate (k - min k L.length) (blanks v (-1))).length = k from rsz_length L v k, Nat.min_eq_left hk, Nat.sub_self]
    simp
  rw [e2, e1, List.take_left' (by rw [List.length_map]; exact hl), List.map_map]
  have : ∀ l ∈ L, ((fun l => fit l w) ∘ fun l => fit l v) l = l := fun l hl' => by
    have h' := g.2.2.2.2.2 l hl'
    show fit (fit l v) w = l
    rw [fit_fit h'.2 hv, ← h'.1, fit_self h'.2]
  rw [List.map_congr_left this]
  simp
theorem rsz_small {h : Nat} {L : List (List C)} (hl : L.length = h) {v k : Nat} (hk : k ≤ h) : rsz L v k = (L.take k).map (fun l => fit l v) := by
  unfold rsz
  rw [hl, Nat.min_eq_left hk, Nat.sub_self]
  simp
theorem rsz_steps {w h : Nat} {L : List (List C)} (g : Good w h L) {v k v' k' : Nat} (hk : k ≤ h) (hv' : v' ≤ v) (hk' : k' ≤ k) : rsz (rsz L v k) v' k' = rsz L v' k' := by
  have hl := g.2.2.2.2.1
  rw [rsz_small (h := k) (rsz_length L v k) hk', rsz_small (h := h) hl hk, rsz_small (h := h) hl (by omega), ← List.map_take, List.take_take, Nat.min_eq_left hk', List.map_map]
  refine List.map_congr_left fun l hl' => ?_
  exact fit_fit (g.2.2.2.2.2 l (List.mem_of_mem_take hl')).2 hv'
/-- Scrolling a proper grid up by at most the range. -/
theorem scrollR_up {w h : Nat} {L : List (List C)} (g : Good w h L) {t b m : Nat} (h1 : t < b) (h2 : b ≤ h) (h3 : m ≤ b - t) (c : Int) :
    scrollR (w : Int) (h : Int) L (t : Int) (b : Int) (m : Int) c = ⟨0, w, h, scr L t b m 0 (blanks w c), out L t m⟩ := by
  unfold scrollR
  rw [if_neg (by rw [good_gE g]; decide), if_neg (by omega)]
  have e : lim (t : Int) (b : Int) (m : Int) = (m : Int) := by unfold lim; omega
  rw [e, show (max (m : Int) 0).toNat = m by omega, show (max (-(m : Int)) 0).toNat = 0 by omega, Int.toNat_natCast, Int.toNat_natCast, Int.toNat_natCast]
theorem scrollR_down {w h : Nat} {L : List (List C)} (g : Good w h L) {t b m : Nat} (h1 : t < b) (h2 : b ≤ h) (h3 : m ≤ b - t) (c : Int) :
    scrollR (w : Int) (h : Int) L (t : Int) (b : Int) (-(m : Int)) c = ⟨0, w, h, scr L t b 0 m (blanks w c), []⟩ := by
  unfold scrollR
  rw [if_neg (by rw [good_gE g]; decide), if_neg (by omega)]
  have e : lim (t : Int) (b : Int) (-(m : Int)) = -(m : Int) := by unfold lim; omega
  rw [e, show (max (-(m : Int)) 0).toNat = 0 by omega, show (max (-(-(m : Int))) 0).toNat = m by omega, Int.toNat_natCast, Int.toNat_natCast, Int.toNat_natCast]
  simp [out]
theorem resizeR_good {w h : Nat} {L : List (List C)} (g : Good w h L) {v k : Nat} (h1 : 1 ≤ v) (h2 : v ≤ 132) (h3 : 1 ≤ k) (h4 : k ≤ 60) : resizeR (w : Int) (h : Int) L (v : Int) (k : Int) = ⟨0, v, k, rsz L v k, []⟩ := by
  unfold resizeR
  rw [if_neg (by rw [good_gE g]; decide), if_neg (by intro e; exact e ⟨by omega, by omega, by omega, by omega⟩), Int.toNat_natCast, Int.toNat_natCast]
theorem setR_good {w h : Nat} {L : List (List C)} (g : Good w h L) {k : Nat} (hk : k < h) {l : List C} (h1 : l.length = w) (h2 : Pr l) : setR (w : Int) (h : Int) L (k : Int) l = ⟨0, w, h, L.set k l, []⟩ := by
  unfold setR
  have hc : check l = 0 := check_good h2 (by have := g.1; omega) (by have := g.2.1; omega)
  rw [if_neg (by rw [good_gE g]; decide), if_neg (by omega), if_neg (by omega), if_neg (by omega), Int.toNat_natCast]

end Gd
end Go.Proofs.YtgmgnlgolhjhmaaDoor
