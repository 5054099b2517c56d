/-
  The plain mathematics of layer 6: how small the fields of a valid event are. No program in this text.
-/
import Derived.Test.YtihfjkjbeeoanaaDoorVtMore
namespace Go.Proofs.YtihfjkjbeeoanaaDoor.Vt

theorem ok_small {e : E} (h : chk e = 0) : e.i.length ≤ 2 ∧ e.t.length ≤ 256 ∧ ∀ z ∈ e.ps, -1 ≤ z ∧ z ≤ 9999 := by
  obtain ⟨hk, hf, ho⟩ := chk_of h
  rw [ho]
  unfold only
  unfold fits at hf
  split
  · exact ⟨by simp, by simp, fun z hz => by cases hz⟩
  · split
    · exact ⟨by simp, by simp, fun z hz => by cases hz⟩
    · split
      · rename_i h1 h2 h3
        rw [if_neg h1, if_neg h2, if_pos h3] at hf
        unfold escOk at hf
        simp only [Bool.and_eq_true, decide_eq_true_eq] at hf
        exact ⟨hf.2.1, by simp, fun z hz => by cases hz⟩
      · split
        · rename_i h1 h2 h3 h4
          rw [if_neg h1, if_neg h2, if_neg h3, if_pos h4] at hf
          unfold seqOk at hf
          simp only [Bool.and_eq_true, decide_eq_true_eq] at hf
          have h5 := Cp.fmt_ok hf.1
          have h6 := Cp.over_le h5.2.1
          have h7 := Cp.has_ge (Cp.bad_parts h5.1).2.2
          exact ⟨h6.2.1, by simp, fun z hz => ⟨h7 z hz, h6.2.2 z hz⟩⟩
        · rename_i h1 h2 h3 h4
          rw [if_neg h1, if_neg h2, if_neg h3, if_neg h4] at hf
          unfold cmdOk at hf
          simp only [Bool.and_eq_true, decide_eq_true_eq] at hf
          exact ⟨by simp, hf.1, fun z hz => by cases hz⟩

end Go.Proofs.YtihfjkjbeeoanaaDoor.Vt
