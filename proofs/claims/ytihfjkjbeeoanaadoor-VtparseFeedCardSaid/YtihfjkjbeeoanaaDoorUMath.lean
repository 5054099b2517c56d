/-
  The decoder of layer 1 as a plain function on lists of bytes: one step a byte, a list of numbers and the bytes of an open sequence; what such a fold keeps. No program, no memory.
-/
import Derived.Lib.DecodeN
namespace Go.Proofs.YtihfjkjbeeoanaaDoor
namespace U8

def seqLen (b : Nat) : Nat :=
  if b ≤ 127 then 1 else if 194 ≤ b ∧ b ≤ 223 then 2 else if 224 ≤ b ∧ b ≤ 239 then 3 else if 240 ≤ b ∧ b ≤ 244 then 4 else 0

def first (k : List UInt8) : Nat := (k.headD 0).toNat
def low (k : List UInt8) : Nat := if 1 < k.length then 128 else if first k = 224 then 160 else if first k = 240 then 144 else 128
def high (k : List UInt8) : Nat := if 1 < k.length then 191 else if first k = 237 then 159 else if first k = 244 then 143 else 191
def mayF (k : List UInt8) (b : Nat) : Bool := decide (low k ≤ b) && decide (b ≤ high k)

def val : List UInt8 → Nat
  | [a] => a.toNat
  | [a, b] => a.toNat % 32 * 64 + b.toNat % 64
  | [a, b, c] => a.toNat % 16 * 4096 + b.toNat % 64 * 64 + c.toNat % 64
  | [a, b, c, d] => a.toNat % 8 * 262144 + b.toNat % 64 * 4096 + c.toNat % 64 * 64 + d.toNat % 64
  | _ => 65533

def settle (st : List Int × List UInt8) (b : UInt8) : List Int × List UInt8 :=
  if st.2 ≠ [] ∧ mayF st.2 b.toNat = false then (st.1 ++ [65533], []) else st
def push (st : List Int × List UInt8) (b : UInt8) : List Int × List UInt8 :=
  if seqLen (first (st.2 ++ [b])) = 0 then (st.1 ++ [65533], [])
  else if seqLen (first (st.2 ++ [b])) = (st.2 ++ [b]).length then (st.1 ++ [(val (st.2 ++ [b]) : Int)], [])
  else (st.1, st.2 ++ [b])
def step (st : List Int × List UInt8) (b : UInt8) : List Int × List UInt8 := push (settle st b) b
def runFrom (st : List Int × List UInt8) (l : List UInt8) : List Int × List UInt8 := l.foldl step st
def run (l : List UInt8) : List Int × List UInt8 := runFrom ([], []) l

theorem runFrom_nil (st : List Int × List UInt8) : runFrom st [] = st := rfl
theorem runFrom_cons (st : List Int × List UInt8) (b : UInt8) (l : List UInt8) : runFrom st (b :: l) = runFrom (step st b) l := rfl
theorem runFrom_append (st : List Int × List UInt8) (a b : List UInt8) : runFrom st (a ++ b) = runFrom (runFrom st a) b := List.foldl_append
theorem run_append (a b : List UInt8) : run (a ++ b) = runFrom (run a) b := runFrom_append _ a b
theorem run_snoc (a : List UInt8) (b : UInt8) : run (a ++ [b]) = step (run a) b := by rw [run_append]; rfl

theorem step_shift (o o' : List Int) (k : List UInt8) (b : UInt8) : step (o ++ o', k) b = (o ++ (step (o', k) b).1, (step (o', k) b).2) := by
  unfold step settle push
  simp only
  by_cases h : k ≠ [] ∧ mayF k b.toNat = false
  · simp only [if_pos h]
    split
    · simp
    · split <;> simp
  · simp only [if_neg h]
    split
    · simp
    · split <;> simp
theorem runFrom_shift (l : List UInt8) : ∀ (o o' : List Int) (k : List UInt8), runFrom (o ++ o', k) l = (o ++ (runFrom (o', k) l).1, (runFrom (o', k) l).2) := by
  induction l with
  | nil => intro o o' k; rfl
  | cons b l ih =>
    intro o o' k
    rw [runFrom_cons, runFrom_cons, step_shift]
    obtain ⟨x, y⟩ := step (o', k) b
    exact ih o x y
theorem runFrom_out (l : List UInt8) (o : List Int) (k : List UInt8) : runFrom (o, k) l = (o ++ (runFrom ([], k) l).1, (runFrom ([], k) l).2) := by
  have := runFrom_shift l o [] k
  rwa [List.append_nil] at this

theorem seqLen_le (b : Nat) : seqLen b ≤ 4 := by
  unfold seqLen
  repeat' split
  all_goals omega

/-- The bytes of a sequence that is begun, not necessarily whole. -/
def Pre : List UInt8 → Prop
  | [a] => 1 ≤ seqLen a.toNat
  | [a, b] => 2 ≤ seqLen a.toNat ∧ mayF [a] b.toNat = true
  | [a, b, c] => 3 ≤ seqLen a.toNat ∧ mayF [a] b.toNat = true ∧ mayF [a, b] c.toNat = true
  | [a, b, c, d] => 4 ≤ seqLen a.toNat ∧ mayF [a] b.toNat = true ∧ mayF [a, b] c.toNat = true ∧ mayF [a, b, c] d.toNat = true
  | _ => False
def Opened (k : List UInt8) : Prop := k = [] ∨ (Pre k ∧ k.length < seqLen (first k))

theorem pre_snoc {k : List UInt8} {b : UInt8} (h : Pre k) (hl : k.length < seqLen (first k)) (hm : mayF k b.toNat = true) : Pre (k ++ [b]) := by
  have h4 := seqLen_le (first k)
  match k, h, hl, hm, h4 with
  | [a], _, hl, hm, _ => exact ⟨hl, hm⟩
  | [a, c], h, hl, hm, _ => exact ⟨hl, h.2, hm⟩
  | [a, c, d], h, hl, hm, _ => exact ⟨hl, h.2.1, h.2.2, hm⟩
  | [a, c, d, e], _, hl, _, h4 => simp only [List.length_cons, List.length_nil] at hl; omega
theorem first_snoc {k : List UInt8} (h : k ≠ []) (b : UInt8) : first (k ++ [b]) = first k := by
  cases k with
  | nil => exact absurd rfl h
  | cons a l => rfl

theorem opened_settle {st : List Int × List UInt8} (b : UInt8) (h : Opened st.2) : (settle st b).2 = [] ∨ (Pre (settle st b).2 ∧ (settle st b).2.length < seqLen (first (settle st b).2) ∧ mayF (settle st b).2 b.toNat = true) := by
  unfold settle
  by_cases hc : st.2 ≠ [] ∧ mayF st.2 b.toNat = false
  · rw [if_pos hc]; exact .inl rfl
  · rw [if_neg hc]
    rcases h with h | ⟨h1, h2⟩
    · exact .inl h
    · by_cases he : st.2 = []
      · exact .inl he
      · refine .inr ⟨h1, h2, ?_⟩
        cases hm : mayF st.2 b.toNat
        · exact absurd ⟨he, hm⟩ hc
        · rfl
/-- What a byte finds: no open bytes, or open ones that it continues; so what is joined is begun, if its first byte begins anything. -/
theorem pre_push {st : List Int × List UInt8} (b : UInt8) (h : Opened st.2) (hz : seqLen (first ((settle st b).2 ++ [b])) ≠ 0) : Pre ((settle st b).2 ++ [b]) ∧ ((settle st b).2 ++ [b]).length ≤ seqLen (first ((settle st b).2 ++ [b])) := by
  rcases opened_settle b h with e | ⟨h1, h2, h3⟩
  · rw [e] at hz ⊢
    exact ⟨Nat.pos_of_ne_zero hz, Nat.pos_of_ne_zero hz⟩
  · have hne : (settle st b).2 ≠ [] := fun e => by rw [e] at h1; exact h1
    refine ⟨pre_snoc h1 h2 h3, ?_⟩
    rw [first_snoc hne]
    simp only [List.length_append, List.length_cons, List.length_nil]
    omega
theorem opened_step {st : List Int × List UInt8} (b : UInt8) (h : Opened st.2) : Opened (step st b).2 := by
  unfold step push
  by_cases hz : seqLen (first ((settle st b).2 ++ [b])) = 0
  · rw [if_pos hz]; exact .inl rfl
  · rw [if_neg hz]
    by_cases he : seqLen (first ((settle st b).2 ++ [b])) = ((settle st b).2 ++ [b]).length
    · rw [if_pos he]; exact .inl rfl
    · rw [if_neg he]
      have := pre_push b h hz
      exact .inr ⟨this.1, Nat.lt_of_le_of_ne this.2 (fun e => he e.symm)⟩
theorem opened_from (l : List UInt8) : ∀ st : List Int × List UInt8, Opened st.2 → Opened (runFrom st l).2 := by
  induction l with
  | nil => intro st h; exact h
  | cons b l ih => intro st h; exact ih _ (opened_step b h)
theorem opened_run (l : List UInt8) : Opened (run l).2 := opened_from l _ (.inl rfl)

theorem step_open {k : List UInt8} {b : UInt8} (o : List Int) (hf : k = [] ∨ mayF k b.toNat = true) (h0 : seqLen (first (k ++ [b])) ≠ 0) (h1 : seqLen (first (k ++ [b])) ≠ (k ++ [b]).length) : step (o, k) b = (o, k ++ [b]) := by
  have hs : settle (o, k) b = (o, k) := by
    unfold settle
    rw [if_neg]
    rintro ⟨a, c⟩
    rcases hf with hf | hf
    · exact a hf
    · rw [hf] at c; cases c
  unfold step
  rw [hs]
  unfold push
  rw [if_neg h0, if_neg h1]
theorem run_one {a : UInt8} (h : 1 < seqLen a.toNat) : run [a] = ([], [a]) :=
  step_open (k := []) (b := a) [] (.inl rfl) (by show seqLen a.toNat ≠ 0; omega) (by show seqLen a.toNat ≠ 1; omega)
theorem run_two {a b : UInt8} (h : 2 < seqLen a.toNat) (hb : mayF [a] b.toNat = true) : run [a, b] = ([], [a, b]) := by
  have e : run ([a] ++ [b]) = step (run [a]) b := run_snoc [a] b
  rw [run_one (by omega)] at e
  exact e.trans (step_open (k := [a]) (b := b) [] (.inr hb) (by show seqLen a.toNat ≠ 0; omega) (by show seqLen a.toNat ≠ 2; omega))
theorem run_three {a b c : UInt8} (h : 3 < seqLen a.toNat) (hb : mayF [a] b.toNat = true) (hc : mayF [a, b] c.toNat = true) : run [a, b, c] = ([], [a, b, c]) := by
  have e : run ([a, b] ++ [c]) = step (run [a, b]) c := run_snoc [a, b] c
  rw [run_two (by omega) hb] at e
  exact e.trans (step_open (k := [a, b]) (b := c) [] (.inr hc) (by show seqLen a.toNat ≠ 0; omega) (by show seqLen a.toNat ≠ 3; omega))
/-- Open bytes, decoded by themselves: no number, and they are open. -/
theorem run_opened {k : List UInt8} (h : Opened k) : run k = ([], k) := by
  rcases h with rfl | ⟨h, hl⟩
  · rfl
  · have h4 := seqLen_le (first k)
    match k, h, hl, h4 with
    | [a], _, hl, _ => exact run_one hl
    | [a, b], h, hl, _ => exact run_two hl h.2
    | [a, b, c], h, hl, _ => exact run_three hl h.2.1 h.2.2
    | [a, b, c, d], _, hl, h4 => simp only [List.length_cons, List.length_nil] at hl; omega
theorem opened_length {k : List UInt8} (h : Opened k) : k.length ≤ 3 := by
  rcases h with rfl | ⟨_, hl⟩
  · simp
  · have := seqLen_le (first k); omega

/-- A stream in two pieces: the second is decoded behind what the first left open. -/
theorem run_split (a b : List UInt8) : run (a ++ b) = ((run a).1 ++ (run ((run a).2 ++ b)).1, (run ((run a).2 ++ b)).2) := by
  have e : run ((run a).2 ++ b) = runFrom ([], (run a).2) b := by rw [run_append, run_opened (opened_run a)]
  rw [e, run_append]
  obtain ⟨o, k⟩ := run a
  exact runFrom_out b o k

theorem settle_kept (st : List Int × List UInt8) (b : UInt8) : (settle st b).2 = [] ∨ (settle st b).2 = st.2 := by
  unfold settle; split
  · exact .inl rfl
  · exact .inr rfl
theorem step_kept (st : List Int × List UInt8) (b : UInt8) : (step st b).2 = [] ∨ (step st b).2 = [b] ∨ (step st b).2 = st.2 ++ [b] := by
  unfold step push
  rcases settle_kept st b with e | e
  · rw [e]
    split
    · exact .inl rfl
    · split
      · exact .inl rfl
      · exact .inr (.inl rfl)
  · rw [e]
    split
    · exact .inl rfl
    · split
      · exact .inl rfl
      · exact .inr (.inr rfl)
theorem run_suffix (l : List UInt8) : (run l).2 <:+ l := by
  suffices h : ∀ n : Nat, ∀ l : List UInt8, l.length = n → (run l).2 <:+ l from h l.length l rfl
  intro n
  induction n with
  | zero => intro l hl; rw [List.eq_nil_of_length_eq_zero hl]; exact List.nil_suffix
  | succ n ih =>
    intro l hl
    obtain ⟨l', b, rfl⟩ : ∃ l' b, l = l' ++ [b] := ⟨l.dropLast, l.getLast (by intro e; rw [e] at hl; cases hl), (List.dropLast_concat_getLast _).symm⟩
    have hl' : l'.length = n := by simp at hl; exact hl
    obtain ⟨t, ht⟩ := ih l' hl'
    rw [run_snoc]
    rcases step_kept (run l') b with e | e | e
    · rw [e]; exact List.nil_suffix
    · rw [e]; exact List.suffix_append _ _
    · rw [e]; exact ⟨t, by rw [← List.append_assoc, ht]⟩
theorem run_kept (l : List UInt8) : (run l).2 = l.drop (l.length - (run l).2.length) := (List.suffix_iff_eq_drop).1 (run_suffix l)
theorem run_kept_le (l : List UInt8) : (run l).2.length ≤ l.length := (run_suffix l).length_le

theorem settle_count (st : List Int × List UInt8) (b : UInt8) : (settle st b).1.length + min 1 (settle st b).2.length ≤ st.1.length + min 1 st.2.length := by
  unfold settle
  split
  · rename_i h
    have : 0 < st.2.length := List.length_pos_iff.2 h.1
    simp; omega
  · exact Nat.le_refl _
theorem push_count (st : List Int × List UInt8) (b : UInt8) : (push st b).1.length + min 1 (push st b).2.length ≤ st.1.length + 1 := by
  unfold push
  split
  · simp
  · split
    · simp
    · simp only
      exact Nat.add_le_add_left (Nat.min_le_left _ _) _
theorem run_count (l : List UInt8) : (run l).1.length + min 1 (run l).2.length ≤ l.length := by
  suffices h : ∀ (l : List UInt8) (st : List Int × List UInt8), (runFrom st l).1.length + min 1 (runFrom st l).2.length ≤ st.1.length + min 1 st.2.length + l.length by
    have := h l ([], [])
    simp only [List.length_nil, Nat.zero_add, Nat.min_zero] at this
    exact this
  intro l
  induction l with
  | nil => intro st; simp [runFrom_nil]
  | cons b l ih =>
    intro st
    rw [runFrom_cons]
    have h1 := ih (step st b)
    have h2 := push_count (settle st b) b
    have h3 := settle_count st b
    have e : step st b = push (settle st b) b := rfl
    rw [e] at h1 ⊢
    simp only [List.length_cons]
    omega
theorem run_out_le (l : List UInt8) : (run l).1.length ≤ l.length := by have := run_count l; omega

/-- What ends a stream: the numbers, and U+FFFD for open bytes. -/
def ended (l : List UInt8) : List Int := if (run l).2 = [] then (run l).1 else (run l).1 ++ [65533]
theorem ended_opened {k : List UInt8} (h : Opened k) : ended k = if k = [] then [] else [65533] := by
  unfold ended; rw [run_opened h]; simp

/-- A byte below 128 stands for itself, whatever is open. -/
theorem run_ascii (s t : List UInt8) (b : UInt8) (hb : b.toNat < 128) : run (s ++ [b] ++ t) = ((run s).1 ++ ended (run s).2 ++ [(b.toNat : Int)] ++ (run t).1, (run t).2) := by
  rw [run_append, run_snoc]
  have hs : step (run s) b = ((run s).1 ++ ended (run s).2 ++ [(b.toNat : Int)], []) := by
    have hO := opened_run s
    rw [ended_opened hO]
    have hp : ∀ o : List Int, push (o, []) b = (o ++ [(b.toNat : Int)], []) := by
      intro o
      have e : seqLen (first ([] ++ [b])) = 1 := by
        show seqLen b.toNat = 1
        unfold seqLen; rw [if_pos (by omega)]
      unfold push
      rw [if_neg (by rw [e]; decide), if_pos (by rw [e]; rfl)]
      rfl
    unfold step settle
    by_cases hk : (run s).2 = []
    · rw [if_neg (fun h => h.1 hk), if_pos hk, List.append_nil]
      have := hp (run s).1
      rw [← hk] at this
      rw [hk] at this
      rw [← this, ← hk]
    · have hm : mayF (run s).2 b.toNat = false := by
        have : 128 ≤ low (run s).2 := by
          unfold low
          repeat' split
          all_goals omega
        unfold mayF
        rw [decide_eq_false (by omega)]; rfl
      rw [if_pos ⟨hk, hm⟩, if_neg hk, hp]
  rw [hs, runFrom_out]
  rfl

end U8
end Go.Proofs.YtihfjkjbeeoanaaDoor
