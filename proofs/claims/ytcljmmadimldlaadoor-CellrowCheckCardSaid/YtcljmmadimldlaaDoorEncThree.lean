/-
  The valid strings are those that are the encoding of what they decode to; the numbers of a valid string, as Go's conversion lists them.
-/
import Derived.Test.YtcljmmadimldlaaDoorEncTwo
namespace Go.Proofs.YtcljmmadimldlaaDoor
namespace U8

theorem of_toNat (a : UInt8) (n : Nat) (h : n = a.toNat) : UInt8.ofNat n = a := by rw [h]; exact UInt8.ofNat_toNat
/-- A whole sequence is the encoding of its number. -/
theorem enc_val {q : List UInt8} (h : Whole q) : enc1 (val q : Int) = q := by
  obtain ⟨hP, he⟩ := h
  obtain ⟨c, hc, _, _, e⟩ := enc_forms (val q : Int)
  rw [e]
  clear e
  match q, hP, he, hc with
  | [a], _, he, hc =>
    have he : seqLen a.toNat = 1 := he
    have ha : a.toNat < 128 := by
      unfold seqLen at he
      repeat' split at he
      all_goals omega
    have hv : val [a] = a.toNat := rfl
    rw [hv] at hc
    unfold fix at hc
    rw [if_neg (by omega)] at hc
    rw [if_pos (by omega), of_toNat a c (by omega)]
  | [a, b], hP, he, hc =>
    have he : seqLen a.toNat = 2 := he
    have hm := mayF_first hP.2
    have ha : 194 ≤ a.toNat ∧ a.toNat ≤ 223 := by
      unfold seqLen at he
      repeat' split at he
      all_goals omega
    have h1 : 128 ≤ b.toNat ∧ b.toNat ≤ 191 := by
      revert hm
      repeat' split
      all_goals omega
    have hv : val [a, b] = a.toNat % 32 * 64 + b.toNat % 64 := rfl
    rw [hv] at hc
    unfold fix at hc
    rw [if_neg (by omega)] at hc
    rw [if_neg (by omega), if_pos (by omega), of_toNat a _ (by omega), of_toNat b _ (by omega)]
  | [a, b, d], hP, he, hc =>
    have he : seqLen a.toNat = 3 := he
    have hm := mayF_first hP.2.1
    have h2 := mayF_later (by simp) hP.2.2
    have ha : 224 ≤ a.toNat ∧ a.toNat ≤ 239 := by
      unfold seqLen at he
      repeat' split at he
      all_goals omega
    have h1 : (128 ≤ b.toNat ∧ b.toNat ≤ 191) ∧ (a.toNat = 224 → 160 ≤ b.toNat) ∧ (a.toNat = 237 → b.toNat ≤ 159) := by
      revert hm
      repeat' split
      all_goals omega
    obtain ⟨h1, h1a, h1b⟩ := h1
    have hv : val [a, b, d] = a.toNat % 16 * 4096 + b.toNat % 64 * 64 + d.toNat % 64 := rfl
    rw [hv] at hc
    unfold fix at hc
    rw [if_neg (by omega)] at hc
    rw [if_neg (by omega), if_neg (by omega), if_pos (by omega), of_toNat a _ (by omega), of_toNat b _ (by omega), of_toNat d _ (by omega)]
  | [a, b, d, f], hP, he, hc =>
    have he : seqLen a.toNat = 4 := he
    have hm := mayF_first hP.2.1
    have h2 := mayF_later (by simp) hP.2.2.1
    have h3 := mayF_later (by simp) hP.2.2.2
    have ha : 240 ≤ a.toNat ∧ a.toNat ≤ 244 := by
      unfold seqLen at he
      repeat' split at he
      all_goals omega
    have h1 : (128 ≤ b.toNat ∧ b.toNat ≤ 191) ∧ (a.toNat = 240 → 144 ≤ b.toNat) ∧ (a.toNat = 244 → b.toNat ≤ 143) := by
      revert hm
      repeat' split
      all_goals omega
    obtain ⟨h1, h1a, h1b⟩ := h1
    have hv : val [a, b, d, f] = a.toNat % 8 * 262144 + b.toNat % 64 * 4096 + d.toNat % 64 * 64 + f.toNat % 64 := rfl
    rw [hv] at hc
    unfold fix at hc
    rw [if_neg (by omega)] at hc
    rw [if_neg (by omega), if_neg (by omega), if_neg (by omega), of_toNat a _ (by omega), of_toNat b _ (by omega), of_toNat d _ (by omega), of_toNat f _ (by omega)]

/-- Along a valid string: a whole sequence, and the rest is valid. -/
theorem valid_cut {l : List UInt8} (hne : l ≠ []) (h : Lib.validD l = true) : ∃ q r, Whole q ∧ l = q ++ r ∧ Lib.validD r = true := by
  rw [Lib.validD_step l hne] at h
  by_cases hb : (Lib.decodeL l).1 = 65533 ∧ (Lib.decodeL l).2 = 1
  · rw [if_pos hb] at h; cases h
  · obtain ⟨q, r, hw, e⟩ := whole_head l hne hb
    refine ⟨q, r, hw, e, ?_⟩
    rw [if_neg hb, e, decodeL_whole hw] at h
    simpa using h
theorem valid_run (n : Nat) : ∀ l : List UInt8, l.length ≤ n → Lib.validD l = true → (run l).2 = [] ∧ encL (run l).1 = l := by
  induction n with
  | zero =>
    intro l hl _
    rw [List.eq_nil_of_length_eq_zero (by omega : l.length = 0)]
    exact ⟨rfl, rfl⟩
  | succ n ih =>
    intro l hl h
    by_cases hne : l = []
    · rw [hne]; exact ⟨rfl, rfl⟩
    · obtain ⟨q, r, hw, e, hr⟩ := valid_cut hne h
      have hq := List.length_pos_iff.2 (whole_ne hw)
      have hlen : l.length = q.length + r.length := by rw [e, List.length_append]
      obtain ⟨h1, h2⟩ := ih r (by omega) hr
      rw [e, run_whole_append hw]
      refine ⟨h1, ?_⟩
      rw [encL_cons, enc_val hw, h2]
theorem valid_iff (l : List UInt8) : Lib.validD l = true ↔ ((run l).2 = [] ∧ encL (run l).1 = l) := by
  constructor
  · exact valid_run l.length l (Nat.le_refl _)
  · rintro ⟨_, h2⟩
    rw [← h2]
    exact valid_encL _

theorem decode_drop (s : ByteArray) (i : Nat) (_hi : i ≤ s.size) : Utf8.decode s i = Lib.decodeL (s.data.toList.drop i) := by
  have hg : ∀ j, s.get! (i + j) = (s.data.toList.drop i).getD j 0 := by
    intro j
    obtain ⟨l, rfl⟩ : ∃ l : List UInt8, s = ByteArray.mk l.toArray := ⟨s.data.toList, by cases s; simp⟩
    rw [get_bytes]
    simp [List.getD_eq_getElem?_getD, List.getElem?_drop]
  rw [Lib.decode_at, decodeL_eq, hg 1, hg 2, hg 3]
  have h0 := hg 0
  rw [Nat.add_zero] at h0
  rw [h0, List.length_drop, ← Lib.size_eq]
/-- Go's own list of the numbers of a valid string. -/
theorem runes_from (s : ByteArray) (n : Nat) : ∀ (i : Nat) (acc : Array Value), i ≤ s.size → s.size - i ≤ n → Lib.validD (s.data.toList.drop i) = true →
    Conv.runesFrom s n i acc = acc ++ ((run (s.data.toList.drop i)).1.map (Value.int .i32)).toArray := by
  induction n with
  | zero =>
    intro i acc hi hn _
    have e : s.data.toList.drop i = [] := List.drop_of_length_le (by rw [← Lib.size_eq]; omega)
    rw [e]
    show acc = acc ++ #[]
    simp
  | succ n ih =>
    intro i acc hi hn hv
    unfold Conv.runesFrom
    by_cases hlt : i < s.size
    · rw [if_pos hlt]
      have hne : s.data.toList.drop i ≠ [] := by
        intro e
        have := congrArg List.length e
        rw [List.length_drop, ← Lib.size_eq] at this
        simp at this
        omega
      obtain ⟨q, r, hw, e, hr⟩ := valid_cut hne hv
      have hq := List.length_pos_iff.2 (whole_ne hw)
      have hlen : (s.data.toList.drop i).length = q.length + r.length := by rw [e, List.length_append]
      rw [List.length_drop, ← Lib.size_eq] at hlen
      have hd : s.data.toList.drop (i + q.length) = r := by
        rw [← List.drop_drop, e]; simp
      rw [decode_drop s i hi, e, decodeL_whole hw, run_whole_append hw]
      simp only
      rw [ih (i + q.length) _ (by omega) (by omega) (by rw [hd]; exact hr), hd]
      simp
    · rw [if_neg hlt]
      have e : s.data.toList.drop i = [] := List.drop_of_length_le (by rw [← Lib.size_eq]; omega)
      rw [e]
      show acc = acc ++ #[]
      simp
theorem runes_valid (s : ByteArray) (h : Lib.validD s.data.toList = true) : Conv.runesFrom s s.size 0 #[] = ((run s.data.toList).1.map (Value.int .i32)).toArray := by
  have := runes_from s s.size 0 #[] (Nat.zero_le _) (by omega) h
  rw [this]
  simp

/-- Every number that is decoded is one of a rune's. -/
theorem step_range (st : List Int × List UInt8) (b : UInt8) (h : ∀ z ∈ st.1, -2147483648 ≤ z ∧ z ≤ 2147483647) : ∀ z ∈ (step st b).1, -2147483648 ≤ z ∧ z ≤ 2147483647 := by
  have hs : ∀ z ∈ (settle st b).1, -2147483648 ≤ z ∧ z ≤ 2147483647 := by
    intro z hz
    unfold settle at hz
    split at hz
    · rw [List.mem_append] at hz
      rcases hz with hz | hz
      · exact h z hz
      · simp at hz; omega
    · exact h z hz
  intro z hz
  unfold step push at hz
  split at hz
  · rw [List.mem_append] at hz
    rcases hz with hz | hz
    · exact hs z hz
    · simp at hz; omega
  · split at hz
    · rw [List.mem_append] at hz
      rcases hz with hz | hz
      · exact hs z hz
      · have := val_lt ((settle st b).2 ++ [b])
        simp only [List.mem_singleton] at hz
        omega
    · exact hs z hz
theorem runFrom_range (l : List UInt8) : ∀ st : List Int × List UInt8, (∀ z ∈ st.1, -2147483648 ≤ z ∧ z ≤ 2147483647) → ∀ z ∈ (runFrom st l).1, -2147483648 ≤ z ∧ z ≤ 2147483647 := by
  induction l with
  | nil => intro st h; exact h
  | cons b l ih => intro st h; rw [runFrom_cons]; exact ih _ (step_range st b h)
theorem run_range (l : List UInt8) : ∀ z ∈ (run l).1, -2147483648 ≤ z ∧ z ≤ 2147483647 := runFrom_range l _ (fun z hz => by cases hz)

end U8
end Go.Proofs.YtcljmmadimldlaaDoor
