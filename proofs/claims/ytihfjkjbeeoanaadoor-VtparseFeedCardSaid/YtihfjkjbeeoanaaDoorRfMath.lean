/-
  The numbers that a byte closes in the ground: which of them are printed. No program in this text.
-/
import Derived.Test.YtihfjkjbeeoanaaDoorRefA
import Derived.Test.YtihfjkjbeeoanaaDoorVtMath
namespace Go.Proofs.YtihfjkjbeeoanaaDoor

namespace U8
/-- The number of a whole sequence of several bytes. -/
theorem val_range {l : List UInt8} (h : Pre l) (h1 : 1 < l.length) (he : l.length = seqLen (first l)) : 128 ≤ val l ∧ val l ≤ 1114111 ∧ ¬ (55296 ≤ val l ∧ val l ≤ 57343) := by
  match l, h, h1, he with
  | [a, b], hP, _, he =>
    have he : 2 = seqLen a.toNat := he
    have hm := mayF_first hP.2
    have ha : 194 ≤ a.toNat ∧ a.toNat ≤ 223 := by
      unfold seqLen at he
      repeat' split at he
      all_goals omega
    have h1 : 128 ≤ b.toNat ∧ b.toNat ≤ 191 := by
      revert hm
      repeat' split
      all_goals omega
    have hv : val [a, b] = a.toNat % 32 * 64 + b.toNat % 64 := rfl
    omega
  | [a, b, d], hP, _, he =>
    have he : 3 = seqLen a.toNat := he
    have hm := mayF_first hP.2.1
    have h2 := mayF_later (by simp) hP.2.2
    have ha : 224 ≤ a.toNat ∧ a.toNat ≤ 239 := by
      unfold seqLen at he
      repeat' split at he
      all_goals omega
    have h1 : (128 ≤ b.toNat ∧ b.toNat ≤ 191) ∧ (a.toNat = 224 → 160 ≤ b.toNat) ∧ (a.toNat = 237 → b.toNat ≤ 159) := by
      revert hm
      repeat' split
      all_goals omega
    have hv : val [a, b, d] = a.toNat % 16 * 4096 + b.toNat % 64 * 64 + d.toNat % 64 := rfl
    omega
  | [a, b, d, e], hP, _, he =>
    have he : 4 = seqLen a.toNat := he
    have hm := mayF_first hP.2.1
    have h2 := mayF_later (by simp) hP.2.2.1
    have h3 := mayF_later (by simp) hP.2.2.2
    have ha : 240 ≤ a.toNat ∧ a.toNat ≤ 244 := by
      unfold seqLen at he
      repeat' split at he
      all_goals omega
    have h1 : (128 ≤ b.toNat ∧ b.toNat ≤ 191) ∧ (a.toNat = 240 → 144 ≤ b.toNat) ∧ (a.toNat = 244 → b.toNat ≤ 143) := by
      revert hm
      repeat' split
      all_goals omega
    have hv : val [a, b, d, e] = a.toNat % 8 * 262144 + b.toNat % 64 * 4096 + d.toNat % 64 * 64 + e.toNat % 64 := rfl
    omega
end U8

namespace Vt
/-- The document's own test for a number in the ground. -/
def shown (r : Int) : Bool := decide (r < 128) || decide (159 < r)
theorem shown_big {r : Int} (h : 128 ≤ r) (h2 : r ≤ 1114111) (h3 : ¬ (55296 ≤ r ∧ r ≤ 57343)) : printed r = shown r := by
  unfold printed shown
  rw [Bool.eq_iff_iff]
  simp only [Bool.and_eq_true, Bool.or_eq_true, decide_eq_true_eq]
  omega
theorem shown_byte {b : UInt8} (h : 32 ≤ b.toNat) (h2 : b.toNat < 127) : printed (b.toNat : Int) = shown (b.toNat : Int) := by
  unfold printed shown
  rw [Bool.eq_iff_iff]
  simp only [Bool.and_eq_true, Bool.or_eq_true, decide_eq_true_eq]
  omega
theorem shown_bad : printed 65533 = shown 65533 := shown_big (by decide) (by decide) (by decide)
theorem shown_none (b : UInt8) (h : 32 ≤ b.toNat) (h2 : b.toNat ≠ 127) : ∀ r ∈ (U8.step ([], []) b).1, printed r = shown r := by
  intro r hr
  by_cases h3 : b.toNat < 128
  · rw [U8.step_ascii [] b h3] at hr
    simp at hr
    subst hr
    exact shown_byte h (by omega)
  · by_cases h4 : U8.seqLen b.toNat = 0
    · rw [U8.step_bad [] b h4] at hr
      simp at hr
      subst hr
      exact shown_bad
    · have h5 : 1 < U8.seqLen b.toNat := by
        unfold U8.seqLen at h4 ⊢
        repeat' split at h4
        all_goals (repeat' split)
        all_goals omega
      rw [U8.step_begin [] b h5] at hr
      cases hr
theorem shown_all (pe : List UInt8) (b : UInt8) (ho : U8.Opened pe) (h : 32 ≤ b.toNat) (h2 : b.toNat ≠ 127) : ∀ r ∈ (U8.run (pe ++ [b])).1, printed r = shown r := by
  intro r hr
  rw [U8.run_snoc, U8.run_opened ho] at hr
  by_cases hq : pe = []
  · subst hq
    exact shown_none b h h2 r hr
  · cases hm : U8.mayF pe b.toNat
    · rw [U8.step_again [] pe b hq hm, List.nil_append] at hr
      have e := U8.step_shift [65533] [] [] b
      rw [List.append_nil] at e
      rw [e] at hr
      simp only [List.mem_append, List.mem_singleton] at hr
      rcases hr with rfl | hr
      · exact shown_bad
      · exact shown_none b h h2 r hr
    · obtain ⟨hP, hs⟩ := U8.step_more [] pe b hq ho hm
      rw [hs] at hr
      split at hr
      · rename_i hl
        simp at hr
        have hlen : 1 < (pe ++ [b]).length := by
          rw [List.length_append]
          cases pe with
          | nil => exact absurd rfl hq
          | cons a t => simp
        have := U8.val_range hP hlen (by rw [hl, U8.first_snoc hq])
        rw [hr]
        exact shown_big (by omega) (by omega) (by omega)
      · cases hr
theorem prints_shown {xs : List Int} (h : ∀ r ∈ xs, printed r = shown r) : prints xs = (xs.filter shown).map prt := by
  unfold prints
  congr 1
  exact List.filter_congr h
end Vt

end Go.Proofs.YtihfjkjbeeoanaaDoor
