/-
  Plain facts on one round of the decoder over a string: which bytes are open at place k, what the next byte makes of them, what Go's own decoder gives for a whole sequence.
-/
import Derived.Test.YtihfjkjbeeoanaaDoorUMath
import Derived.Lib.Strings
import Derived.Lib.IndexBytes
import Derived.Shelf.Unicode.DecodeSlow
namespace Go.Proofs.YtihfjkjbeeoanaaDoor
namespace U8

def outAt (s : ByteArray) (k : Nat) : List Int := (run (s.data.toList.take k)).1
def openAt (s : ByteArray) (k : Nat) : List UInt8 := (run (s.data.toList.take k)).2
def startAt (s : ByteArray) (k : Nat) : Nat := k - (openAt s k).length

theorem take_len (s : ByteArray) (k : Nat) (hk : k ≤ s.size) : (s.data.toList.take k).length = k := by
  rw [List.length_take, ← Lib.size_eq]; omega
theorem open_le (s : ByteArray) (k : Nat) (hk : k ≤ s.size) : (openAt s k).length ≤ k := by
  have := run_kept_le (s.data.toList.take k)
  rwa [take_len s k hk] at this
theorem out_le (s : ByteArray) (k : Nat) (hk : k ≤ s.size) : (outAt s k).length ≤ k := by
  have := run_out_le (s.data.toList.take k)
  rwa [take_len s k hk] at this
theorem start_le (s : ByteArray) (k : Nat) : startAt s k ≤ k := Nat.sub_le _ _
theorem opened_at (s : ByteArray) (k : Nat) : Opened (openAt s k) := opened_run _

theorem take_next (s : ByteArray) (k : Nat) (h : k < s.size) : s.data.toList.take (k + 1) = s.data.toList.take k ++ [s[k]] := by
  rw [List.take_succ_eq_append_getElem (by rw [← Lib.size_eq]; exact h)]; rfl
theorem step_at (s : ByteArray) (k : Nat) (h : k < s.size) : (outAt s (k + 1), openAt s (k + 1)) = step (outAt s k, openAt s k) s[k] := by
  unfold outAt openAt
  rw [take_next s k h, run_snoc]

/-- The open bytes are those from the start on. -/
theorem extract_open (s : ByteArray) (k : Nat) (hk : k ≤ s.size) : (s.extract (startAt s k) k).data.toList = openAt s k := by
  have h := run_kept (s.data.toList.take k)
  rw [take_len s k hk] at h
  rw [Lib.extract_data, ← List.drop_take]
  exact h.symm
theorem drop_take_succ (l : List UInt8) (a k : Nat) (hk : k < l.length) (ha : a ≤ k) : (l.take (k + 1)).drop a = (l.take k).drop a ++ [l[k]] := by
  rw [List.take_succ_eq_append_getElem hk, List.drop_append_of_le_length (by rw [List.length_take]; omega)]
theorem extract_next (s : ByteArray) (k a : Nat) (h : k < s.size) (ha : a ≤ k) : (s.extract a (k + 1)).data.toList = (s.extract a k).data.toList ++ [s[k]] := by
  rw [Lib.extract_data, Lib.extract_data, ← List.drop_take, ← List.drop_take, drop_take_succ _ a k (by rw [← Lib.size_eq]; exact h) ha]; rfl
theorem first_extract (s : ByteArray) (a k : Nat) (ha : a < k) (hk : k ≤ s.size) : first (s.extract a k).data.toList = (s[a]'(by omega)).toNat := by
  have hl : a < s.data.toList.length := by rw [← Lib.size_eq]; omega
  rw [Lib.extract_data, List.drop_eq_getElem_cons hl]
  obtain ⟨n, hn⟩ : ∃ n, k - a = n + 1 := ⟨k - a - 1, by omega⟩
  rw [hn]
  rfl

theorem val_lt (k : List UInt8) : val k < 2147483648 := by
  unfold val
  split
  · rename_i a; have := a.toNat_lt; omega
  · omega
  · omega
  · omega
  · omega

theorem decode_one (a : UInt8) (h : seqLen a.toNat = 1) (n x y z : Nat) : (Lib.decodeN n a.toNat x y z).1 = a.toNat := by
  have ha : a.toNat < 128 := by
    unfold seqLen at h
    repeat' split at h
    all_goals omega
  unfold Lib.decodeN
  rw [if_pos ha]
theorem mayF_first {a : UInt8} {x : Nat} (h : mayF [a] x = true) : (if a.toNat = 224 then 160 else if a.toNat = 240 then 144 else 128) ≤ x ∧ x ≤ (if a.toNat = 237 then 159 else if a.toNat = 244 then 143 else 191) := by
  unfold mayF low high at h
  simp only [Bool.and_eq_true, decide_eq_true_eq] at h
  exact h
theorem mayF_later {k : List UInt8} {x : Nat} (hk : 1 < k.length) (h : mayF k x = true) : 128 ≤ x ∧ x ≤ 191 := by
  unfold mayF low high at h
  simp only [Bool.and_eq_true, decide_eq_true_eq, if_pos hk] at h
  exact h
theorem decode_two (a b : UInt8) (h : seqLen a.toNat = 2) (hb : mayF [a] b.toNat = true) (y z : Nat) : (Lib.decodeN 2 a.toNat b.toNat y z).1 = val [a, b] := by
  have hm := mayF_first hb
  have ha : 194 ≤ a.toNat ∧ a.toNat ≤ 223 := by
    unfold seqLen at h
    repeat' split at h
    all_goals omega
  have h1 : 128 ≤ b.toNat ∧ b.toNat ≤ 191 := by
    revert hm
    repeat' split
    all_goals omega
  unfold Lib.decodeN val
  rw [if_neg (by omega), if_pos ⟨by omega, by omega, by omega⟩, if_pos (by omega)]
theorem decode_three (a b c : UInt8) (h : seqLen a.toNat = 3) (hb : mayF [a] b.toNat = true) (hc : mayF [a, b] c.toNat = true) (z : Nat) : (Lib.decodeN 3 a.toNat b.toNat c.toNat z).1 = val [a, b, c] := by
  have hm := mayF_first hb
  have h2 := mayF_later (by simp) hc
  have ha : 224 ≤ a.toNat ∧ a.toNat ≤ 239 := by
    unfold seqLen at h
    repeat' split at h
    all_goals omega
  have h1 : (128 ≤ b.toNat ∧ b.toNat ≤ 191) ∧ (a.toNat = 224 → 160 ≤ b.toNat) ∧ (a.toNat = 237 → b.toNat ≤ 159) := by
    revert hm
    repeat' split
    all_goals omega
  obtain ⟨h1, h1a, h1b⟩ := h1
  clear hm h hb hc
  unfold Lib.decodeN val
  rw [if_neg (by omega), if_neg (by omega), if_pos ⟨by omega, ⟨by omega, by omega⟩, by omega, by omega⟩]
  rw [if_pos]
  refine ⟨by omega, ?_⟩
  omega
theorem decode_four (a b c d : UInt8) (h : seqLen a.toNat = 4) (hb : mayF [a] b.toNat = true) (hc : mayF [a, b] c.toNat = true) (hd : mayF [a, b, c] d.toNat = true) : (Lib.decodeN 4 a.toNat b.toNat c.toNat d.toNat).1 = val [a, b, c, d] := by
  have hm := mayF_first hb
  have h2 := mayF_later (by simp) hc
  have h3 := mayF_later (by simp) hd
  have ha : 240 ≤ a.toNat ∧ a.toNat ≤ 244 := by
    unfold seqLen at h
    repeat' split at h
    all_goals omega
  have h1 : (128 ≤ b.toNat ∧ b.toNat ≤ 191) ∧ (a.toNat = 240 → 144 ≤ b.toNat) ∧ (a.toNat = 244 → b.toNat ≤ 143) := by
    revert hm
    repeat' split
    all_goals omega
  obtain ⟨h1, h1a, h1b⟩ := h1
  clear hm h hb hc hd
  unfold Lib.decodeN val
  rw [if_neg (by omega), if_neg (by omega), if_neg (by omega), if_pos ⟨by omega, ⟨by omega, by omega⟩, ⟨by omega, by omega⟩, by omega, by omega⟩]
  rw [if_pos]
  refine ⟨by omega, ?_⟩
  omega

theorem get_bytes (l : List UInt8) (i : Nat) : (ByteArray.mk l.toArray).get! i = l.getD i 0 := by
  show l.toArray[i]! = l.getD i 0
  rw [List.getElem!_toArray, List.getElem!_eq_getElem?_getD, List.getD_eq_getElem?_getD]
  rfl
/-- What Go's decoder gives for a whole sequence. -/
theorem decode_whole (t : ByteArray) (h : Pre t.data.toList) (he : seqLen (first t.data.toList) = t.data.toList.length) : (Lib.decodeGo t).1 = val t.data.toList := by
  obtain ⟨l, rfl⟩ : ∃ l : List UInt8, t = ByteArray.mk l.toArray := ⟨t.data.toList, by cases t; simp⟩
  simp only at h he ⊢
  have hz : (ByteArray.mk l.toArray).size = l.length := by show l.toArray.size = _; simp
  have h4 := seqLen_le (first l)
  unfold Lib.decodeGo
  match l, h, he, hz, h4 with
  | [a], _, he, hz, _ =>
    rw [if_neg (by rw [hz]; simp), Lib.decode_at, get_bytes]
    exact decode_one a he _ _ _ _
  | [a, b], h, he, hz, _ =>
    rw [if_neg (by rw [hz]; simp), Lib.decode_at, get_bytes, get_bytes, hz]
    exact decode_two a b he h.2 _ _
  | [a, b, c], h, he, hz, _ =>
    rw [if_neg (by rw [hz]; simp), Lib.decode_at, get_bytes, get_bytes, get_bytes, hz]
    exact decode_three a b c he h.2.1 h.2.2 _
  | [a, b, c, d], h, he, hz, _ =>
    rw [if_neg (by rw [hz]; simp), Lib.decode_at, get_bytes, get_bytes, get_bytes, get_bytes, hz]
    exact decode_four a b c d he h.2.1 h.2.2.1 h.2.2.2

end U8
end Go.Proofs.YtihfjkjbeeoanaaDoor
