/-
  Decoding whole sequences one after the other; the valid strings; Go's own list of the numbers of a valid string.
-/
import Derived.Test.YtcljmmadimldlaaDoorEnc
import Derived.Laws.IdiomStrings
namespace Go.Proofs.YtcljmmadimldlaaDoor
namespace U8

theorem step_end {k : List UInt8} {b : UInt8} (o : List Int) (hf : k = [] ∨ mayF k b.toNat = true) (h0 : seqLen (first (k ++ [b])) = (k ++ [b]).length) : step (o, k) b = (o ++ [(val (k ++ [b]) : Int)], []) := by
  have hs : settle (o, k) b = (o, k) := by
    unfold settle
    rw [if_neg]
    rintro ⟨a, c⟩
    rcases hf with hf | hf
    · exact a hf
    · rw [hf] at c; cases c
  unfold step
  rw [hs]
  unfold push
  rw [if_neg (by rw [h0]; simp), if_pos h0]
/-- A whole sequence decodes to its number. -/
theorem run_whole {q : List UInt8} (h : Whole q) : run q = ([(val q : Int)], []) := by
  obtain ⟨hP, he⟩ := h
  match q, hP, he with
  | [a], _, he => exact step_end (k := []) (b := a) [] (.inl rfl) he
  | [a, b], hP, he =>
    have he : seqLen a.toNat = 2 := he
    have e : run ([a] ++ [b]) = step (run [a]) b := run_snoc [a] b
    rw [run_one (by omega)] at e
    exact e.trans (step_end (k := [a]) (b := b) [] (.inr hP.2) he)
  | [a, b, c], hP, he =>
    have he : seqLen a.toNat = 3 := he
    have e : run ([a, b] ++ [c]) = step (run [a, b]) c := run_snoc [a, b] c
    rw [run_two (by omega) hP.2.1] at e
    exact e.trans (step_end (k := [a, b]) (b := c) [] (.inr hP.2.2) he)
  | [a, b, c, d], hP, he =>
    have he : seqLen a.toNat = 4 := he
    have e : run ([a, b, c] ++ [d]) = step (run [a, b, c]) d := run_snoc [a, b, c] d
    rw [run_three (by omega) hP.2.1 hP.2.2.1] at e
    exact e.trans (step_end (k := [a, b, c]) (b := d) [] (.inr hP.2.2.2) he)
theorem run_whole_append {q : List UInt8} (h : Whole q) (l : List UInt8) : run (q ++ l) = ((val q : Int) :: (run l).1, (run l).2) := by
  rw [run_append, run_whole h, runFrom_out]
  rfl
/-- What is encoded decodes to the numbers that stand for it, and nothing is left open. -/
theorem run_encL (xs : List Int) : run (encL xs) = (xs.map fix, []) := by
  induction xs with
  | nil => rfl
  | cons r xs ih =>
    obtain ⟨hw, hv⟩ := enc_whole r
    rw [encL_cons, run_whole_append hw, ih, hv]
    rfl

theorem get_app (l : List UInt8) (i : Nat) : ((ByteArray.mk l.toArray).get! i) = l.getD i 0 := get_bytes l i
theorem decodeL_eq (l : List UInt8) : Lib.decodeL l = Lib.decodeN l.length (l.getD 0 0).toNat (l.getD 1 0).toNat (l.getD 2 0).toNat (l.getD 3 0).toNat := by
  have e : Lib.decodeL l = Utf8.decode (ByteArray.mk l.toArray) 0 := rfl
  rw [e, Lib.decode_at, get_bytes, get_bytes, get_bytes, get_bytes]
  have hz : (ByteArray.mk l.toArray).size = l.length := by show l.toArray.size = _; simp
  rw [hz]
  rfl

/-- A whole sequence at the head: its number and its length. -/
theorem decodeL_whole {q : List UInt8} (h : Whole q) (l : List UInt8) : Lib.decodeL (q ++ l) = (val q, q.length) := by
  obtain ⟨hP, he⟩ := h
  rw [decodeL_eq]
  match q, hP, he with
  | [a], _, he =>
    have he : seqLen a.toNat = 1 := he
    have ha : a.toNat < 128 := by
      unfold seqLen at he
      repeat' split at he
      all_goals omega
    show Lib.decodeN _ a.toNat _ _ _ = (a.toNat, 1)
    unfold Lib.decodeN
    rw [if_pos ha]
  | [a, b], hP, he =>
    have he : seqLen a.toNat = 2 := he
    have hm := mayF_first hP.2
    have ha : 194 ≤ a.toNat ∧ a.toNat ≤ 223 := by
      unfold seqLen at he
      repeat' split at he
      all_goals omega
    have h1 : 128 ≤ b.toNat ∧ b.toNat ≤ 191 := by
      revert hm
      repeat' split
      all_goals omega
    have hn : 1 < ([a, b] ++ l).length := by simp
    show Lib.decodeN _ a.toNat b.toNat _ _ = (a.toNat % 32 * 64 + b.toNat % 64, 2)
    unfold Lib.decodeN
    rw [if_neg (by omega), if_pos ⟨by omega, hn, by omega⟩, if_pos (by omega)]
  | [a, b, c], hP, he =>
    have he : seqLen a.toNat = 3 := he
    have hm := mayF_first hP.2.1
    have h2 := mayF_later (by simp) hP.2.2
    have ha : 224 ≤ a.toNat ∧ a.toNat ≤ 239 := by
      unfold seqLen at he
      repeat' split at he
      all_goals omega
    have h1 : (128 ≤ b.toNat ∧ b.toNat ≤ 191) ∧ (a.toNat = 224 → 160 ≤ b.toNat) ∧ (a.toNat = 237 → b.toNat ≤ 159) := by
      revert hm
      repeat' split
      all_goals omega
    obtain ⟨h1, h1a, h1b⟩ := h1
    have hn : 1 < ([a, b, c] ++ l).length ∧ 2 < ([a, b, c] ++ l).length := by simp
    show Lib.decodeN _ a.toNat b.toNat c.toNat _ = (a.toNat % 16 * 4096 + b.toNat % 64 * 64 + c.toNat % 64, 3)
    unfold Lib.decodeN
    rw [if_neg (by omega), if_neg (by omega), if_pos ⟨by omega, ⟨hn.1, by omega⟩, hn.2, by omega⟩, if_pos ⟨by omega, by omega⟩]
  | [a, b, c, d], hP, he =>
    have he : seqLen a.toNat = 4 := he
    have hm := mayF_first hP.2.1
    have h2 := mayF_later (by simp) hP.2.2.1
    have h3 := mayF_later (by simp) hP.2.2.2
    have ha : 240 ≤ a.toNat ∧ a.toNat ≤ 244 := by
      unfold seqLen at he
      repeat' split at he
      all_goals omega
    have h1 : (128 ≤ b.toNat ∧ b.toNat ≤ 191) ∧ (a.toNat = 240 → 144 ≤ b.toNat) ∧ (a.toNat = 244 → b.toNat ≤ 143) := by
      revert hm
      repeat' split
      all_goals omega
    obtain ⟨h1, h1a, h1b⟩ := h1
    have hn : 1 < ([a, b, c, d] ++ l).length ∧ 2 < ([a, b, c, d] ++ l).length ∧ 3 < ([a, b, c, d] ++ l).length := by simp
    show Lib.decodeN _ a.toNat b.toNat c.toNat d.toNat = (a.toNat % 8 * 262144 + b.toNat % 64 * 4096 + c.toNat % 64 * 64 + d.toNat % 64, 4)
    unfold Lib.decodeN
    rw [if_neg (by omega), if_neg (by omega), if_neg (by omega), if_pos ⟨by omega, ⟨hn.1, by omega⟩, ⟨hn.2.1, by omega⟩, hn.2.2, by omega⟩, if_pos ⟨by omega, by omega⟩]

theorem whole_ne {q : List UInt8} (h : Whole q) : q ≠ [] := fun e => by rw [e] at h; exact h.1
theorem whole_good {q : List UInt8} (h : Whole q) : ¬ (val q = 65533 ∧ q.length = 1) := by
  rintro ⟨h1, h2⟩
  match q, h2 with
  | [a], _ =>
    have : val [a] = a.toNat := rfl
    have := a.toNat_lt
    omega
theorem valid_whole {q : List UInt8} (h : Whole q) (l : List UInt8) : Lib.validD (q ++ l) = Lib.validD l := by
  rw [Lib.validD_step _ (by intro e; exact whole_ne h (List.append_eq_nil_iff.1 e).1), decodeL_whole h]
  rw [if_neg (whole_good h)]
  simp
theorem valid_encL (xs : List Int) : Lib.validD (encL xs) = true := by
  induction xs with
  | nil => rfl
  | cons r xs ih => rw [encL_cons, valid_whole (enc_whole r).1, ih]

/-- A valid string that is not empty begins with a whole sequence. -/
theorem whole_head (l : List UInt8) (hne : l ≠ []) (h : ¬ ((Lib.decodeL l).1 = 65533 ∧ (Lib.decodeL l).2 = 1)) : ∃ q r, Whole q ∧ l = q ++ r := by
  rw [decodeL_eq] at h
  match l, hne with
  | a :: r, _ =>
    have g0 : ((a :: r).getD 0 0).toNat = a.toNat := rfl
    rw [g0] at h
    unfold Lib.decodeN at h
    have ha := a.toNat_lt
    by_cases h1 : a.toNat < 128
    · exact ⟨[a], r, whole1 (by omega), rfl⟩
    · rw [if_neg h1] at h
      match r with
      | [] =>
        exfalso
        apply h
        rw [if_neg (by simp), if_neg (by simp), if_neg (by simp)]
        exact ⟨rfl, rfl⟩
      | b :: r =>
        have g1 : ((a :: b :: r).getD 1 0).toNat = b.toNat := rfl
        have hb := b.toNat_lt
        rw [g1] at h
        by_cases h2 : a.toNat / 32 = 6 ∧ (1 < (a :: b :: r).length ∧ b.toNat / 64 = 2)
        · rw [if_pos h2] at h
          by_cases h3 : a.toNat % 32 * 64 + b.toNat % 64 ≥ 128
          · exact ⟨[a, b], r, whole2 (by omega) (mayF_intro1 (by omega) (by omega) (by omega) (by omega) (by omega)), rfl⟩
          · rw [if_neg h3] at h; exact absurd ⟨rfl, rfl⟩ h
        · rw [if_neg h2] at h
          match r with
          | [] =>
            exfalso
            apply h
            rw [if_neg (by simp), if_neg (by simp)]
            exact ⟨rfl, rfl⟩
          | c :: r =>
            have g2 : ((a :: b :: c :: r).getD 2 0).toNat = c.toNat := rfl
            have hc := c.toNat_lt
            rw [g2] at h
            by_cases h3 : a.toNat / 16 = 14 ∧ (1 < (a :: b :: c :: r).length ∧ b.toNat / 64 = 2) ∧ (2 < (a :: b :: c :: r).length ∧ c.toNat / 64 = 2)
            · rw [if_pos h3] at h
              split at h
              · rename_i h4
                exact ⟨[a, b, c], r, whole3 (by omega) (mayF_intro1 (by omega) (by omega) (by omega) (by omega) (by omega)) (by omega), rfl⟩
              · exact absurd ⟨rfl, rfl⟩ h
            · rw [if_neg h3] at h
              match r with
              | [] =>
                exfalso
                apply h
                rw [if_neg (by simp)]
                exact ⟨rfl, rfl⟩
              | d :: r =>
                have g3 : ((a :: b :: c :: d :: r).getD 3 0).toNat = d.toNat := rfl
                have hd := d.toNat_lt
                rw [g3] at h
                split at h
                · rename_i h4
                  split at h
                  · rename_i h5
                    exact ⟨[a, b, c, d], r, whole4 (by omega) (mayF_intro1 (by omega) (by omega) (by omega) (by omega) (by omega)) (by omega) (by omega), rfl⟩
                  · exact absurd ⟨rfl, rfl⟩ h
                · exact absurd ⟨rfl, rfl⟩ h

end U8
end Go.Proofs.YtcljmmadimldlaaDoor
