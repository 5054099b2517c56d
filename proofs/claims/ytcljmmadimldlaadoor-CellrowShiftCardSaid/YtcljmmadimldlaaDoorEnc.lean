/-
  Encoding and decoding, plainly: what is encoded decodes to itself, and the valid strings are those that are the encoding of what they decode to.
-/
import Derived.Test.YtcljmmadimldlaaDoorParts
import Derived.Lib.ValidLaws
import Derived.Laws.Cover4
namespace Go.Proofs.YtcljmmadimldlaaDoor
namespace U8

/-- A whole sequence. -/
def Whole (q : List UInt8) : Prop := Pre q ∧ seqLen (first q) = q.length
/-- The number that stands for r: r itself, or U+FFFD if it is no character. -/
def fix (r : Int) : Int := if r < 0 ∨ r > 1114111 ∨ (55296 ≤ r ∧ r ≤ 57343) then 65533 else r
def enc1 (r : Int) : List UInt8 := (Utf8.encode r).data.toList
def encL (xs : List Int) : List UInt8 := xs.flatMap enc1

theorem encL_cons (r : Int) (xs : List Int) : encL (r :: xs) = enc1 r ++ encL xs := rfl
theorem bytes_encL (xs : List Int) : (runesBytes xs).data.toList = encL xs := by
  have h : ∀ (xs : List Int) (s : ByteArray), (xs.foldl (fun r n => r ++ Utf8.encode n) s).data.toList = s.data.toList ++ encL xs := by
    intro xs
    induction xs with
    | nil => intro s; simp [encL]
    | cons r xs ih =>
      intro s
      rw [List.foldl_cons, ih, encL_cons]
      simp [ByteArray.data_append, enc1]
  have := h xs ByteArray.empty
  simpa [runesBytes] using this

theorem toNat_of (n : Nat) (h : n < 256) : (UInt8.ofNat n).toNat = n := by rw [UInt8.toNat_ofNat']; omega

/-- The four forms of what is encoded. -/
theorem enc_forms (r : Int) : ∃ c : Nat, (c : Int) = fix r ∧ c ≤ 1114111 ∧ ¬ (55296 ≤ c ∧ c ≤ 57343) ∧
    enc1 r = if c < 128 then [UInt8.ofNat c] else if c < 2048 then [UInt8.ofNat (192 + c / 64), UInt8.ofNat (128 + c % 64)]
      else if c < 65536 then [UInt8.ofNat (224 + c / 4096), UInt8.ofNat (128 + c / 64 % 64), UInt8.ofNat (128 + c % 64)]
      else [UInt8.ofNat (240 + c / 262144), UInt8.ofNat (128 + c / 4096 % 64), UInt8.ofNat (128 + c / 64 % 64), UInt8.ofNat (128 + c % 64)] := by
  by_cases hv : Utf8.valid r = true
  · have h := hv
    unfold Utf8.valid at h
    simp only [Bool.or_eq_true, Bool.and_eq_true, decide_eq_true_eq] at h
    refine ⟨r.toNat, ?_, by omega, by omega, ?_⟩
    · unfold fix; rw [if_neg (by omega)]; omega
    · unfold enc1 Utf8.encode
      simp only [hv, if_true]
      repeat' split
      all_goals rfl
  · have h := hv
    unfold Utf8.valid at h
    simp only [Bool.or_eq_true, Bool.and_eq_true, decide_eq_true_eq] at h
    refine ⟨65533, ?_, by omega, by omega, ?_⟩
    · unfold fix; rw [if_pos (by omega)]; rfl
    · unfold enc1 Utf8.encode
      have hv2 : Utf8.valid r = false := by simpa using hv
      simp only [hv2, Utf8.runeError]
      rfl

theorem mayF_intro1 {a : UInt8} {x : Nat} (h1 : 128 ≤ x ∧ x ≤ 191) (h2 : a.toNat = 224 → 160 ≤ x) (h3 : a.toNat = 240 → 144 ≤ x) (h4 : a.toNat = 237 → x ≤ 159) (h5 : a.toNat = 244 → x ≤ 143) : mayF [a] x = true := by
  have e1 : low [a] ≤ x := by
    show (if a.toNat = 224 then 160 else if a.toNat = 240 then 144 else 128) ≤ x
    repeat' split
    all_goals omega
  have e2 : x ≤ high [a] := by
    show x ≤ (if a.toNat = 237 then 159 else if a.toNat = 244 then 143 else 191)
    repeat' split
    all_goals omega
  unfold mayF
  simp [e1, e2]
theorem mayF_intro2 {k : List UInt8} {x : Nat} (hk : 1 < k.length) (h1 : 128 ≤ x ∧ x ≤ 191) : mayF k x = true := by
  unfold mayF low high
  simp only [if_pos hk, Bool.and_eq_true, decide_eq_true_eq]
  exact h1
theorem seq1 {a : Nat} (h : a ≤ 127) : seqLen a = 1 := by unfold seqLen; rw [if_pos h]
theorem seq2 {a : Nat} (h : 194 ≤ a ∧ a ≤ 223) : seqLen a = 2 := by unfold seqLen; rw [if_neg (by omega), if_pos h]
theorem seq3 {a : Nat} (h : 224 ≤ a ∧ a ≤ 239) : seqLen a = 3 := by unfold seqLen; rw [if_neg (by omega), if_neg (by omega), if_pos h]
theorem seq4 {a : Nat} (h : 240 ≤ a ∧ a ≤ 244) : seqLen a = 4 := by unfold seqLen; rw [if_neg (by omega), if_neg (by omega), if_neg (by omega), if_pos h]

theorem whole1 {a : UInt8} (h : a.toNat ≤ 127) : Whole [a] := ⟨by show 1 ≤ seqLen a.toNat; rw [seq1 h]; exact Nat.le_refl _, seq1 h⟩
theorem whole2 {a b : UInt8} (h : 194 ≤ a.toNat ∧ a.toNat ≤ 223) (hb : mayF [a] b.toNat = true) : Whole [a, b] := ⟨⟨by rw [seq2 h]; exact Nat.le_refl _, hb⟩, seq2 h⟩
theorem whole3 {a b c : UInt8} (h : 224 ≤ a.toNat ∧ a.toNat ≤ 239) (hb : mayF [a] b.toNat = true) (hc : 128 ≤ c.toNat ∧ c.toNat ≤ 191) : Whole [a, b, c] :=
  ⟨⟨by rw [seq3 h]; exact Nat.le_refl _, hb, mayF_intro2 (by simp) hc⟩, seq3 h⟩
theorem whole4 {a b c d : UInt8} (h : 240 ≤ a.toNat ∧ a.toNat ≤ 244) (hb : mayF [a] b.toNat = true) (hc : 128 ≤ c.toNat ∧ c.toNat ≤ 191) (hd : 128 ≤ d.toNat ∧ d.toNat ≤ 191) : Whole [a, b, c, d] :=
  ⟨⟨by rw [seq4 h]; exact Nat.le_refl _, hb, mayF_intro2 (by simp) hc, mayF_intro2 (by simp) hd⟩, seq4 h⟩

/-- What is encoded is a whole sequence, and stands for the number. -/
theorem enc_whole (r : Int) : Whole (enc1 r) ∧ ((val (enc1 r) : Nat) : Int) = fix r := by
  obtain ⟨c, hc, h1, h2, e⟩ := enc_forms r
  rw [e, ← hc]
  clear e hc
  split
  · have t0 := toNat_of c (by omega)
    refine ⟨whole1 (by omega), ?_⟩
    show ((UInt8.ofNat c).toNat : Int) = _
    omega
  · split
    · have t0 := toNat_of (192 + c / 64) (by omega)
      have t1 := toNat_of (128 + c % 64) (by omega)
      refine ⟨whole2 (by omega) (mayF_intro1 (by omega) (by omega) (by omega) (by omega) (by omega)), ?_⟩
      show (((UInt8.ofNat (192 + c / 64)).toNat % 32 * 64 + (UInt8.ofNat (128 + c % 64)).toNat % 64 : Nat) : Int) = _
      rw [t0, t1]
      omega
    · split
      · have t0 := toNat_of (224 + c / 4096) (by omega)
        have t1 := toNat_of (128 + c / 64 % 64) (by omega)
        have t2 := toNat_of (128 + c % 64) (by omega)
        refine ⟨whole3 (by omega) (mayF_intro1 (by omega) (by omega) (by omega) (by omega) (by omega)) (by omega), ?_⟩
        show (((UInt8.ofNat (224 + c / 4096)).toNat % 16 * 4096 + (UInt8.ofNat (128 + c / 64 % 64)).toNat % 64 * 64 + (UInt8.ofNat (128 + c % 64)).toNat % 64 : Nat) : Int) = _
        rw [t0, t1, t2]
        omega
      · have t0 := toNat_of (240 + c / 262144) (by omega)
        have t1 := toNat_of (128 + c / 4096 % 64) (by omega)
        have t2 := toNat_of (128 + c / 64 % 64) (by omega)
        have t3 := toNat_of (128 + c % 64) (by omega)
        refine ⟨whole4 (by omega) (mayF_intro1 (by omega) (by omega) (by omega) (by omega) (by omega)) (by omega) (by omega), ?_⟩
        show (((UInt8.ofNat (240 + c / 262144)).toNat % 8 * 262144 + (UInt8.ofNat (128 + c / 4096 % 64)).toNat % 64 * 4096 + (UInt8.ofNat (128 + c / 64 % 64)).toNat % 64 * 64 + (UInt8.ofNat (128 + c % 64)).toNat % 64 : Nat) : Int) = _
        rw [t0, t1, t2, t3]
        omega

end U8
end Go.Proofs.YtcljmmadimldlaaDoor
