/-
  More of the mathematics of renditions: the round trip, the components of a color, the styles.
-/
import Derived.Test.YtdeicbciiabdfaaDoorAtMath
namespace Go.Proofs.YtdeicbciiabdfaaDoor.At
open Go

theorem codes_low : ∀ (x : Fin 256), ∀ n ∈ codes ((x : Nat) : Int), 1 ≤ n ∧ n ≤ 9 := by decide +kernel
theorem codes_back : ∀ (x : Fin 256), (codes ((x : Nat) : Int)).foldl fl 0 = ((x : Nat) : Int) := by decide +kernel
theorem codes_len : ∀ (x : Fin 256), (codes ((x : Nat) : Int)).length ≤ 8 := by decide +kernel
theorem run_codes (l : List Int) (h : ∀ n ∈ l, 1 ≤ n ∧ n ≤ 9) (a : R) : run a l = ⟨a.f, a.b, l.foldl fl a.g⟩ := by
  induction l generalizing a with
  | nil => rw [run_nil]; rfl
  | cons n l ih =>
    have hn := h n (List.mem_cons_self ..)
    rw [run_step (by omega), ih fun x hx => h x (List.mem_cons_of_mem _ hx)]
    unfold step col
    rw [if_neg (by omega)]
    show (⟨if _ then _ else _, if _ then _ else _, _⟩ : R) = _
    rw [if_neg (by omega), if_neg (by omega), if_neg (by omega), if_neg (by omega), if_neg (by omega), if_neg (by omega)]
    rfl
theorem cn_fore (f b g : Int) (l : List Int) (h : -1 ≤ f ∧ f ≤ 255) : run ⟨-1, b, g⟩ (cn f 0 ++ l) = run ⟨f, b, g⟩ l := by
  unfold cn
  split
  · have : f = -1 := by omega
    subst this
    rfl
  · split
    · rw [List.cons_append, List.nil_append, run_step (by omega)]
      unfold step
      rw [if_neg (by omega)]
      have e1 : col (-1) (30 + 0 + f) = f := by unfold col; rw [if_pos (by omega)]; omega
      have e2 : col b (30 + 0 + f - 10) = b := by unfold col; rw [if_neg (by omega), if_neg (by omega), if_neg (by omega)]
      have e3 : fl g (30 + 0 + f) = g := fl_high (by omega)
      show run ⟨col (-1) (30 + 0 + f), col b (30 + 0 + f - 10), fl g (30 + 0 + f)⟩ l = _
      rw [e1, e2, e3]
    · split
      · rw [List.cons_append, List.nil_append, run_step (by omega)]
        unfold step
        rw [if_neg (by omega)]
        have e1 : col (-1) (90 + 0 + f - 8) = f := by unfold col; rw [if_neg (by omega), if_pos (by omega)]; omega
        have e2 : col b (90 + 0 + f - 8 - 10) = b := by unfold col; rw [if_neg (by omega), if_neg (by omega), if_neg (by omega)]
        have e3 : fl g (90 + 0 + f - 8) = g := fl_high (by omega)
        show run ⟨col (-1) (90 + 0 + f - 8), col b (90 + 0 + f - 8 - 10), fl g (90 + 0 + f - 8)⟩ l = _
        rw [e1, e2, e3]
      · have hd : den (5 :: f :: l) = (f, 2) := by
          unfold den
          rw [if_pos ⟨by simp, rfl, by simp; omega⟩]
          rfl
        show run ⟨-1, b, g⟩ (38 :: 5 :: f :: l) = _
        rw [run_put (.inl rfl) (by rw [hd]; exact (by decide : (2 : Nat) ≠ 0)), hd]
        rfl
theorem cn_back (f b g : Int) (h : -1 ≤ b ∧ b ≤ 255) : run ⟨f, -1, g⟩ (cn b 10) = ⟨f, b, g⟩ := by
  unfold cn
  split
  · have : b = -1 := by omega
    subst this
    rw [run_nil]
  · split
    · rw [run_step (by omega), run_nil]
      unfold step
      rw [if_neg (by omega)]
      have e1 : col f (30 + 10 + b) = f := by unfold col; rw [if_neg (by omega), if_neg (by omega), if_neg (by omega)]
      have e2 : col (-1) (30 + 10 + b - 10) = b := by unfold col; rw [if_pos (by omega)]; omega
      have e3 : fl g (30 + 10 + b) = g := fl_high (by omega)
      show (⟨col f (30 + 10 + b), col (-1) (30 + 10 + b - 10), fl g (30 + 10 + b)⟩ : R) = _
      rw [e1, e2, e3]
    · split
      · rw [run_step (by omega), run_nil]
        unfold step
        rw [if_neg (by omega)]
        have e1 : col f (90 + 10 + b - 8) = f := by unfold col; rw [if_neg (by omega), if_neg (by omega), if_neg (by omega)]
        have e2 : col (-1) (90 + 10 + b - 8 - 10) = b := by unfold col; rw [if_neg (by omega), if_pos (by omega)]; omega
        have e3 : fl g (90 + 10 + b - 8) = g := fl_high (by omega)
        show (⟨col f (90 + 10 + b - 8), col (-1) (90 + 10 + b - 8 - 10), fl g (90 + 10 + b - 8)⟩ : R) = _
        rw [e1, e2, e3]
      · have hd : den [5, b] = (b, 2) := by
          unfold den
          rw [if_pos ⟨by simp, rfl, by simp; omega⟩]
          rfl
        show run ⟨f, -1, g⟩ [48, 5, b] = _
        rw [run_put (.inr rfl) (by rw [hd]; exact (by decide : (2 : Nat) ≠ 0)), hd]
        show run ⟨f, b, g⟩ [] = _
        rw [run_nil]
theorem cn_range (c o : Int) (h : -1 ≤ c ∧ c ≤ 255) (ho : 0 ≤ o ∧ o ≤ 10) : ∀ n ∈ cn c o, 0 ≤ n ∧ n ≤ 1000 := by
  unfold cn
  split
  · intro n hn; cases hn
  · split
    · intro n hn; simp at hn; omega
    · split
      · intro n hn; simp at hn; omega
      · intro n hn; simp at hn; omega
theorem params_range {a : R} (h : ok a) : ∀ n ∈ params a, 0 ≤ n ∧ n ≤ 1000 := by
  obtain ⟨x, hx⟩ := fin_of h.2.2
  intro n hn
  unfold params at hn
  rw [List.mem_append, List.mem_append, List.mem_cons] at hn
  rcases hn with ((rfl | hn) | hn) | hn
  · decide
  · rw [hx] at hn
    have := codes_low x n hn
    omega
  · exact cn_range _ _ h.1 (by decide) n hn
  · exact cn_range _ _ h.2.1 (by decide) n hn
theorem nn_pos {l : List Int} (h : ∀ n ∈ l, 0 ≤ n) : nn l = l := by
  unfold nn
  conv => rhs; rw [← List.map_id l]
  apply List.map_congr_left
  intro n hn
  have := h n hn
  simp
  omega
/-- A rendition is restored from its numbers. -/
theorem apply_params {a : R} (h : ok a) (b : R) : apply b (params a) = a := by
  have hl : (params a).length ≠ 0 := by unfold params; simp
  unfold apply
  rw [if_neg hl, nn_pos fun n hn => (params_range h n hn).1]
  obtain ⟨x, hx⟩ := fin_of h.2.2
  have hc := codes_low x
  have hb := codes_back x
  rw [← hx] at hc hb
  unfold params
  rw [List.cons_append, List.cons_append, run_step (by decide)]
  have e0 : step b 0 = dflt := by unfold step; rw [if_pos rfl]
  rw [e0, List.append_assoc, run_append _ _ (fun n hn => by have := hc n hn; omega), run_codes _ hc]
  show run ⟨-1, -1, (codes a.g).foldl fl 0⟩ _ = a
  rw [hb, cn_fore _ _ _ _ h.1, cn_back _ _ _ h.2.1]
theorem params_len {a : R} (h : ok a) : (params a).length ≤ 15 := by
  obtain ⟨x, hx⟩ := fin_of h.2.2
  have hc := codes_len x
  rw [← hx] at hc
  have h1 : ∀ c o, (cn c o).length ≤ 3 := fun c o => by
    unfold cn
    split
    · simp
    · split
      · simp
      · split <;> simp
  have := h1 a.f 0
  have := h1 a.b 10
  unfold params
  simp only [List.length_append, List.length_cons]
  omega

end Go.Proofs.YtdeicbciiabdfaaDoor.At
