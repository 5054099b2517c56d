/-
  Plain mathematics of the layers 1 to 3 (no program here).
-/
import Derived.Lib.DecodeN
import Derived.Lib.Strings
import Derived.Lib.IndexBytes
import Derived.Shelf.Unicode.DecodeSlow
import Derived.Lib.ValidLaws
import Derived.Laws.Cover4
import Derived.Laws.IdiomStrings
namespace Go.Proofs.YtgmgnlgolhjhmaaDoor
namespace U8

def seqLen (b : Nat) : Nat :=
  if b ≤ 127 then 1 else if 194 ≤ b ∧ b ≤ 223 then 2 else if 224 ≤ b ∧ b ≤ 239 then 3 else if 240 ≤ b ∧ b ≤ 244 then 4 else 0

def first (k : List UInt8) : Nat := (k.headD 0).toNat
def low (k : List UInt8) : Nat := if 1 < k.length then 128 else if first k = 224 then 160 else if first k = 240 then 144 else 128
def high (k : List UInt8) : Nat := if 1 < k.length then 191 else if first k = 237 then 159 else if first k = 244 then 143 else 191
def mayF (k : List UInt8) (b : Nat) : Bool := decide (low k ≤ b) && decide (b ≤ high k)

def val : List UInt8 → Nat
  | [a] => a.toNat
  | [a, b] => a.toNat % 32 * 64 + b.toNat % 64
  | [a, b, c] => a.toNat % 16 * 4096 + b.toNat % 64 * 64 + c.toNat % 64
  | [a, b, c, d] => a.toNat % 8 * 262144 + b.toNat % 64 * 4096 + c.toNat % 64 * 64 + d.toNat % 64
  | _ => 65533

def settle (st : List Int × List UInt8) (b : UInt8) : List Int × List UInt8 :=
  if st.2 ≠ [] ∧ mayF st.2 b.toNat = false then (st.1 ++ [65533], []) else st
def push (st : List Int × List UInt8) (b : UInt8) : List Int × List UInt8 :=
  if seqLen (first (st.2 ++ [b])) = 0 then (st.1 ++ [65533], [])
  else if seqLen (first (st.2 ++ [b])) = (st.2 ++ [b]).length then (st.1 ++ [(val (st.2 ++ [b]) : Int)], [])
  else (st.1, st.2 ++ [b])
def step (st : List Int × List UInt8) (b : UInt8) : List Int × List UInt8 := push (settle st b) b
def runFrom (st : List Int × List UInt8) (l : List UInt8) : List Int × List UInt8 := l.foldl step st
def run (l : List UInt8) : List Int × List UInt8 := runFrom ([], []) l

theorem runFrom_nil (st : List Int × List UInt8) : runFrom st [] = st := rfl
theorem runFrom_cons (st : List Int × List UInt8) (b : UInt8) (l : List UInt8) : runFrom st (b :: l) = runFrom (step st b) l := rfl
theorem runFrom_append (st : List Int × List UInt8) (a b : List UInt8) : runFrom st (a ++ b) = runFrom (runFrom st a) b := List.foldl_append
theorem run_append (a b : List UInt8) : run (a ++ b) = runFrom (run a) b := runFrom_append _ a b
theorem run_snoc (a : List UInt8) (b : UInt8) : run (a ++ [b]) = step (run a) b := by rw [run_append]; rfl

theorem step_shift (o o' : List Int) (k : List UInt8) (b : UInt8) : step (o ++ o', k) b = (o ++ (step (o', k) b).1, (step (o', k) b).2) := by
  unfold step settle push
  simp only
  by_cases h : k ≠ [] ∧ mayF k b.toNat = false
  · simp only [if_pos h]
    split
    · simp
    · split <;> simp
  · simp only [if_neg h]
    split
    · simp
    · split <;> simp
theorem runFrom_shift (l : List UInt8) : ∀ (o o' : List Int) (k : List UInt8), runFrom (o ++ o', k) l = (o ++ (runFrom (o', k) l).1, (runFrom (o', k) l).2) := by
  induction l with
  | nil => intro o o' k; rfl
  | cons b l ih =>
    intro o o' k
    rw [runFrom_cons, runFrom_cons, step_shift]
    obtain ⟨x, y⟩ := step (o', k) b
    exact ih o x y
theorem runFrom_out (l : List UInt8) (o : List Int) (k : List UInt8) : runFrom (o, k) l = (o ++ (runFrom ([], k) l).1, (runFrom ([], k) l).2) := by
  have := runFrom_shift l o [] k
  rwa [List.append_nil] at this

theorem seqLen_le (b : Nat) : seqLen b ≤ 4 := by
  unfold seqLen
  repeat' split
  all_goals omega

/-- The bytes of a sequence that is begun, not necessarily whole. -/
def Pre : List UInt8 → Prop
  | [a] => 1 ≤ seqLen a.toNat
  | [a, b] => 2 ≤ seqLen a.toNat ∧ mayF [a] b.toNat = true
  | [a, b, c] => 3 ≤ seqLen a.toNat ∧ mayF [a] b.toNat = true ∧ mayF [a, b] c.toNat = true
  | [a, b, c, d] => 4 ≤ seqLen a.toNat ∧ mayF [a] b.toNat = true ∧ mayF [a, b] c.toNat = true ∧ mayF [a, b, c] d.toNat = true
  | _ => False
def Opened (k : List UInt8) : Prop := k = [] ∨ (Pre k ∧ k.length < seqLen (first k))

theorem pre_snoc {k : List UInt8} {b : UInt8} (h : Pre k) (hl : k.length < seqLen (first k)) (hm : mayF k b.toNat = true) : Pre (k ++ [b]) := by
  have h4 := seqLen_le (first k)
  match k, h, hl, hm, h4 with
  | [a], _, hl, hm, _ => exact ⟨hl, hm⟩
  | [a, c], h, hl, hm, _ => exact ⟨hl, h.2, hm⟩
  | [a, c, d], h, hl, hm, _ => exact ⟨hl, h.2.1, h.2.2, hm⟩
  | [a, c, d, e], _, hl, _, h4 => simp only [List.length_cons, List.length_nil] at hl; omega
theorem first_snoc {k : List UInt8} (h : k ≠ []) (b : UInt8) : first (k ++ [b]) = first k := by
  cases k with
  | nil => exact absurd rfl h
  | cons a l => rfl

theorem opened_settle {st : List Int × List UInt8} (b : UInt8) (h : Opened st.2) : (settle st b).2 = [] ∨ (Pre (settle st b).2 ∧ (settle st b).2.length < seqLen (first (settle st b).2) ∧ mayF (settle st b).2 b.toNat = true) := by
  unfold settle
  by_cases hc : st.2 ≠ [] ∧ mayF st.2 b.toNat = false
  · rw [if_pos hc]; exact .inl rfl
  · rw [if_neg hc]
    rcases h with h | ⟨h1, h2⟩
    · exact .inl h
    · by_cases he : st.2 = []
      · exact .inl he
      · refine .inr ⟨h1, h2, ?_⟩
        cases hm : mayF st.2 b.toNat
        · exact absurd ⟨he, hm⟩ hc
        · rfl
/-- What a byte finds: no open bytes, or open ones that it continues; so what is joined is begun, if its first byte begins anything. -/
theorem pre_push {st : List Int × List UInt8} (b : UInt8) (h : Opened st.2) (hz : seqLen (first ((settle st b).2 ++ [b])) ≠ 0) : Pre ((settle st b).2 ++ [b]) ∧ ((settle st b).2 ++ [b]).length ≤ seqLen (first ((settle st b).2 ++ [b])) := by
  rcases opened_settle b h with e | ⟨h1, h2, h3⟩
  · rw [e] at hz ⊢
    exact ⟨Nat.pos_of_ne_zero hz, Nat.pos_of_ne_zero hz⟩
  · have hne : (settle st b).2 ≠ [] := fun e => by rw [e] at h1; exact h1
    refine ⟨pre_snoc h1 h2 h3, ?_⟩
    rw [first_snoc hne]
    simp only [List.length_append, List.length_cons, List.length_nil]
    omega
theorem opened_step {st : List Int × List UInt8} (b : UInt8) (h : Opened st.2) : Opened (step st b).2 := by
  unfold step push
  by_cases hz : seqLen (first ((settle st b).2 ++ [b])) = 0
  · rw [if_pos hz]; exact .inl rfl
  · rw [if_neg hz]
    by_cases he : seqLen (first ((settle st b).2 ++ [b])) = ((settle st b).2 ++ [b]).length
    · rw [if_pos he]; exact .inl rfl
    · rw [if_neg he]
      have := pre_push b h hz
      exact .inr ⟨this.1, Nat.lt_of_le_of_ne this.2 (fun e => he e.symm)⟩
theorem opened_from (l : List UInt8) : ∀ st : List Int × List UInt8, Opened st.2 → Opened (runFrom st l).2 := by
  induction l with
  | nil => intro st h; exact h
  | cons b l ih => intro st h; exact ih _ (opened_step b h)
theorem opened_run (l : List UInt8) : Opened (run l).2 := opened_from l _ (.inl rfl)

theorem step_open {k : List UInt8} {b : UInt8} (o : List Int) (hf : k = [] ∨ mayF k b.toNat = true) (h0 : seqLen (first (k ++ [b])) ≠ 0) (h1 : seqLen (first (k ++ [b])) ≠ (k ++ [b]).length) : step (o, k) b = (o, k ++ [b]) := by
  have hs : settle (o, k) b = (o, k) := by
    unfold settle
    rw [if_neg]
    rintro ⟨a, c⟩
    rcases hf with hf | hf
    · exact a hf
    · rw [hf] at c; cases c
  unfold step
  rw [hs]
  unfold push
  rw [if_neg h0, if_neg h1]
theorem run_one {a : UInt8} (h : 1 < seqLen a.toNat) : run [a] = ([], [a]) :=
  step_open (k := []) (b := a) [] (.inl rfl) (by show seqLen a.toNat ≠ 0; omega) (by show seqLen a.toNat ≠ 1; omega)
theorem run_two {a b : UInt8} (h : 2 < seqLen a.toNat) (hb : mayF [a] b.toNat = true) : run [a, b] = ([], [a, b]) := by
  have e : run ([a] ++ [b]) = step (run [a]) b := run_snoc [a] b
  rw [run_one (by omega)] at e
  exact e.trans (step_open (k := [a]) (b := b) [] (.inr hb) (by show seqLen a.toNat ≠ 0; omega) (by show seqLen a.toNat ≠ 2; omega))
theorem run_three {a b c : UInt8} (h : 3 < seqLen a.toNat) (hb : mayF [a] b.toNat = true) (hc : mayF [a, b] c.toNat = true) : run [a, b, c] = ([], [a, b, c]) := by
  have e : run ([a, b] ++ [c]) = step (run [a, b]) c := run_snoc [a, b] c
  rw [run_two (by omega) hb] at e
  exact e.trans (step_open (k := [a, b]) (b := c) [] (.inr hc) (by show seqLen a.toNat ≠ 0; omega) (by show seqLen a.toNat ≠ 3; omega))
/-- Open bytes, decoded by themselves: no number, and they are open. -/
theorem run_opened {k : List UInt8} (h : Opened k) : run k = ([], k) := by
  rcases h with rfl | ⟨h, hl⟩
  · rfl
  · have h4 := seqLen_le (first k)
    match k, h, hl, h4 with
    | [a], _, hl, _ => exact run_one hl
    | [a, b], h, hl, _ => exact run_two hl h.2
    | [a, b, c], h, hl, _ => exact run_three hl h.2.1 h.2.2
    | [a, b, c, d], _, hl, h4 => simp only [List.length_cons, List.length_nil] at hl; omega
theorem opened_length {k : List UInt8} (h : Opened k) : k.length ≤ 3 := by
  rcases h with rfl | ⟨_, hl⟩
  · simp
  · have := seqLen_le (first k); omega

/-- A stream in two pieces: the second is decoded behind what the first left open. -/
theorem run_split (a b : List UInt8) : run (a ++ b) = ((run a).1 ++ (run ((run a).2 ++ b)).1, (run ((run a).2 ++ b)).2) := by
  have e : run ((run a).2 ++ b) = runFrom ([], (run a).2) b := by rw [run_append, run_opened (opened_run a)]
  rw [e, run_append]
  obtain ⟨o, k⟩ := run a
  exact runFrom_out b o k

theorem settle_kept (st : List Int × List UInt8) (b : UInt8) : (settle st b).2 = [] ∨ (settle st b).2 = st.2 := by
  unfold settle; split
  · exact .inl rfl
  · exact .inr rfl
theorem step_kept (st : List Int × List UInt8) (b : UInt8) : (step st b).2 = [] ∨ (step st b).2 = [b] ∨ (step st b).2 = st.2 ++ [b] := by
  unfold step push
  rcases settle_kept st b with e | e
  · rw [e]
    split
    · exact .inl rfl
    · split
      · exact .inl rfl
      · exact .inr (.inl rfl)
  · rw [e]
    split
    · exact .inl rfl
    · split
      · exact .inl rfl
      · exact .inr (.inr rfl)
theorem run_suffix (l : List UInt8) : (run l).2 <:+ l := by
  suffices h : ∀ n : Nat, ∀ l : List UInt8, l.length = n → (run l).2 <:+ l from h l.length l rfl
  intro n
  induction n with
  | zero => intro l hl; rw [List.eq_nil_of_length_eq_zero hl]; exact List.nil_suffix
  | succ n ih =>
    intro l hl
    obtain ⟨l', b, rfl⟩ : ∃ l' b, l = l' ++ [b] := ⟨l.dropLast, l.getLast (by intro e; rw [e] at hl; cases hl), (List.dropLast_concat_getLast _).symm⟩
    have hl' : l'.length = n := by simp at hl; exact hl
    obtain ⟨t, ht⟩ := ih l' hl'
    rw [run_snoc]
    rcases step_kept (run l') b with e | e | e
    · rw [e]; exact List.nil_suffix
    · rw [e]; exact List.suffix_append _ _
    · rw [e]; exact ⟨t, by rw [← List.append_assoc, ht]⟩
theorem run_kept (l : List UInt8) : (run l).2 = l.drop (l.length - (run l).2.length) := (List.suffix_iff_eq_drop).1 (run_suffix l)
theorem run_kept_le (l : List UInt8) : (run l).2.length ≤ l.length := (run_suffix l).length_le

theorem settle_count (st : List Int × List UInt8) (b : UInt8) : (settle st b).1.length + min 1 (settle st b).2.length ≤ st.1.length + min 1 st.2.length := by
  unfold settle
  split
  · rename_i h
    have : 0 < st.2.length := List.length_pos_iff.2 h.1
    simp; omega
  · exact Nat.le_refl _
theorem push_count (st : List Int × List UInt8) (b : UInt8) : (push st b).1.length + min 1 (push st b).2.length ≤ st.1.length + 1 := by
  unfold push
  split
  · simp
  · split
    · simp
    · simp only
      exact Nat.add_le_add_left (Nat.min_le_left _ _) _
theorem run_count (l : List UInt8) : (run l).1.length + min 1 (run l).2.length ≤ l.length := by
  suffices h : ∀ (l : List UInt8) (st : List Int × List UInt8), (runFrom st l).1.length + min 1 (runFrom st l).2.length ≤ st.1.length + min 1 st.2.length + l.length by
    have := h l ([], [])
    simp only [List.length_nil, Nat.zero_add, Nat.min_zero] at this
    exact this
  intro l
  induction l with
  | nil => intro st; simp [runFrom_nil]
  | cons b l ih =>
    intro st
    rw [runFrom_cons]
    have h1 := ih (step st b)
    have h2 := push_count (settle st b) b
    have h3 := settle_count st b
    have e : step st b = push (settle st b) b := rfl
    rw [e] at h1 ⊢
    simp only [List.length_cons]
    omega
theorem run_out_le (l : List UInt8) : (run l).1.length ≤ l.length := by have := run_count l; omega

/-- What ends a stream: the numbers, and U+FFFD for open bytes. -/
def ended (l : List UInt8) : List Int := if (run l).2 = [] then (run l).1 else (run l).1 ++ [65533]
theorem ended_opened {k : List UInt8} (h : Opened k) : ended k = if k = [] then [] else [65533] := by
  unfold ended; rw [run_opened h]; simp

/-- A byte below 128 stands for itself, whatever is open. -/
theorem run_ascii (s t : List UInt8) (b : UInt8) (hb : b.toNat < 128) : run (s ++ [b] ++ t) = ((run s).1 ++ ended (run s).2 ++ [(b.toNat : Int)] ++ (run t).1, (run t).2) := by
  rw [run_append, run_snoc]
  have hs : step (run s) b = ((run s).1 ++ ended (run s).2 ++ [(b.toNat : Int)], []) := by
    have hO := opened_run s
    rw [ended_opened hO]
    have hp : ∀ o : List Int, push (o, []) b = (o ++ [(b.toNat : Int)], []) := by
      intro o
      have e : seqLen (first ([] ++ [b])) = 1 := by
        show seqLen b.toNat = 1
        unfold seqLen; rw [if_pos (by omega)]
      unfold push
      rw [if_neg (by rw [e]; decide), if_pos (by rw [e]; rfl)]
      rfl
    unfold step settle
    by_cases hk : (run s).2 = []
    · rw [if_neg (fun h => h.1 hk), if_pos hk, List.append_nil]
      have := hp (run s).1
      rw [← hk] at this
      rw [hk] at this
      rw [← this, ← hk]
    · have hm : mayF (run s).2 b.toNat = false := by
        have : 128 ≤ low (run s).2 := by
          unfold low
          repeat' split
          all_goals omega
        unfold mayF
        rw [decide_eq_false (by omega)]; rfl
      rw [if_pos ⟨hk, hm⟩, if_neg hk, hp]
  rw [hs, runFrom_out]
  rfl

end U8
end Go.Proofs.YtgmgnlgolhjhmaaDoor

namespace Go.Proofs.YtgmgnlgolhjhmaaDoor.Cw

/-- r is in the range p. -/
def hit (p : Int × Int) (r : Int) : Bool := decide (p.1 ≤ r) && decide (r ≤ p.2)
/-- r is in one of the ranges. -/
def hits (ps : List (Int × Int)) (r : Int) : Bool := ps.any fun p => hit p r
def wide : List (Int × Int) :=
  [(4352, 4447), (11904, 12350), (12353, 13311), (13312, 19903), (19968, 40959), (40960, 42191), (44032, 55203), (63744, 64255), (65072, 65135), (65280, 65376), (65504, 65510), (127744, 128591), (129280, 129535), (131072, 262141)]
def marks : List (Int × Int) :=
  [(768, 879), (6832, 6911), (7616, 7679), (8203, 8207), (8400, 8447), (65024, 65039), (65056, 65071)]
def ctl (r : Int) : Bool := decide (r < 32) || (decide (127 ≤ r) && decide (r ≤ 159))
/-- The width of a number. -/
def wd (r : Int) : Int := if ctl r = true then -1 else if hits marks r = true then 0 else if hits wide r = true then 2 else 1

theorem hits_of {ps : List (Int × Int)} {r : Int} (k : Nat) (hk : k < ps.length) (h : hit (ps.getD k (0, 0)) r = true) : hits ps r = true := by
  unfold hits
  rw [List.any_eq_true]
  refine ⟨ps[k], List.getElem_mem hk, ?_⟩
  simpa [List.getD_eq_getElem?_getD, hk] using h
theorem hits_none {ps : List (Int × Int)} {r : Int} (h : ∀ k, k < ps.length → hit (ps.getD k (0, 0)) r = false) : hits ps r = false := by
  unfold hits
  rw [List.any_eq_false]
  intro p hp
  obtain ⟨k, hk, rfl⟩ := List.mem_iff_getElem.1 hp
  have := h k hk
  simp [List.getD_eq_getElem?_getD, hk] at this
  simp [this]

theorem hits_marks (r : Int) : hits marks r = true ↔ (768 ≤ r ∧ r ≤ 879) ∨ (6832 ≤ r ∧ r ≤ 6911) ∨ (7616 ≤ r ∧ r ≤ 7679) ∨ (8203 ≤ r ∧ r ≤ 8207) ∨ (8400 ≤ r ∧ r ≤ 8447) ∨ (65024 ≤ r ∧ r ≤ 65039) ∨ (65056 ≤ r ∧ r ≤ 65071) := by
  simp [hits, marks, hit]
theorem hits_wide (r : Int) : hits wide r = true ↔ (4352 ≤ r ∧ r ≤ 4447) ∨ (11904 ≤ r ∧ r ≤ 12350) ∨ (12353 ≤ r ∧ r ≤ 13311) ∨ (13312 ≤ r ∧ r ≤ 19903) ∨ (19968 ≤ r ∧ r ≤ 40959) ∨ (40960 ≤ r ∧ r ≤ 42191) ∨ (44032 ≤ r ∧ r ≤ 55203) ∨
    (63744 ≤ r ∧ r ≤ 64255) ∨ (65072 ≤ r ∧ r ≤ 65135) ∨ (65280 ≤ r ∧ r ≤ 65376) ∨ (65504 ≤ r ∧ r ≤ 65510) ∨ (127744 ≤ r ∧ r ≤ 128591) ∨ (129280 ≤ r ∧ r ≤ 129535) ∨ (131072 ≤ r ∧ r ≤ 262141) := by
  simp [hits, wide, hit]
theorem ctl_iff (r : Int) : ctl r = true ↔ r < 32 ∨ (127 ≤ r ∧ r ≤ 159) := by simp [ctl]
theorem wd_ctl {r : Int} (h : ctl r = true) : wd r = -1 := by simp [wd, h]
theorem wd_mark {r : Int} (h : hits marks r = true) : wd r = 0 := by
  have hc : ctl r = false := by
    cases e : ctl r
    · rfl
    · rw [ctl_iff] at e; rw [hits_marks] at h; omega
  simp [wd, h, hc]
theorem wd_wide {r : Int} (h : hits wide r = true) : wd r = 2 := by
  have hc : ctl r = false := by
    cases e : ctl r
    · rfl
    · rw [ctl_iff] at e; rw [hits_wide] at h; omega
  have hm : hits marks r = false := by
    cases e : hits marks r
    · rfl
    · rw [hits_marks] at e; rw [hits_wide] at h; omega
  simp [wd, h, hc, hm]
theorem wd_one {r : Int} (hc : ctl r = false) (hm : hits marks r = false) (hw : hits wide r = false) : wd r = 1 := by simp [wd, hc, hm, hw]
theorem wd_cases (r : Int) : wd r = -1 ∨ wd r = 0 ∨ wd r = 1 ∨ wd r = 2 := by
  unfold wd
  repeat' split
  all_goals simp
theorem wd_two (r : Int) : wd r = 2 ↔ hits wide r = true := by
  constructor
  · intro h
    unfold wd at h
    repeat' split at h
    · omega
    · omega
    · assumption
    · omega
  · exact wd_wide
theorem wd_zero (r : Int) : wd r = 0 ↔ hits marks r = true := by
  constructor
  · intro h
    unfold wd at h
    repeat' split at h
    · omega
    · assumption
    · omega
    · omega
  · exact wd_mark
theorem wd_neg (r : Int) : wd r = -1 ↔ ctl r = true := by
  constructor
  · intro h
    unfold wd at h
    repeat' split at h
    · assumption
    · omega
    · omega
    · omega
  · exact wd_ctl

/-- The sum of the widths of numbers; control characters count as 0. -/
def total : List Int → Int
  | [] => 0
  | r :: l => max (wd r) 0 + total l
theorem total_append (a b : List Int) : total (a ++ b) = total a + total b := by
  induction a with
  | nil => simp [total]
  | cons r a ih => simp only [List.cons_append, total, ih]; omega
theorem total_snoc (a : List Int) (r : Int) : total (a ++ [r]) = total a + max (wd r) 0 := by
  rw [total_append]; simp [total]
theorem max_bounds (r : Int) : 0 ≤ max (wd r) 0 ∧ max (wd r) 0 ≤ 2 := by
  rcases wd_cases r with h | h | h | h <;> rw [h] <;> decide
theorem total_bounds (a : List Int) : 0 ≤ total a ∧ total a ≤ 2 * a.length := by
  induction a with
  | nil => simp [total]
  | cons r a ih =>
    have := max_bounds r
    simp only [total, List.length_cons]
    omega
theorem take_succ (l : List Int) (k : Nat) (hk : k < l.length) : l.take (k + 1) = l.take k ++ [l.getD k 0] := by
  rw [List.take_succ_eq_append_getElem hk]
  simp [List.getD_eq_getElem?_getD, hk]
theorem total_take (l : List Int) (k : Nat) (hk : k < l.length) : total (l.take (k + 1)) = total (l.take k) + max (wd (l.getD k 0)) 0 := by
  rw [take_succ l k hk, total_snoc]
theorem total_take_bounds (l : List Int) (k : Nat) : 0 ≤ total (l.take k) ∧ total (l.take k) ≤ 2 * (k : Int) := by
  have := total_bounds (l.take k)
  have h : (l.take k).length ≤ k := by rw [List.length_take]; omega
  omega

end Go.Proofs.YtgmgnlgolhjhmaaDoor.Cw

namespace Go.Proofs.YtgmgnlgolhjhmaaDoor
namespace U8

def outAt (s : ByteArray) (k : Nat) : List Int := (run (s.data.toList.take k)).1
def openAt (s : ByteArray) (k : Nat) : List UInt8 := (run (s.data.toList.take k)).2
def startAt (s : ByteArray) (k : Nat) : Nat := k - (openAt s k).length

theorem take_len (s : ByteArray) (k : Nat) (hk : k ≤ s.size) : (s.data.toList.take k).length = k := by
  rw [List.length_take, ← Lib.size_eq]; omega
theorem open_le (s : ByteArray) (k : Nat) (hk : k ≤ s.size) : (openAt s k).length ≤ k := by
  have := run_kept_le (s.data.toList.take k)
  rwa [take_len s k hk] at this
theorem out_le (s : ByteArray) (k : Nat) (hk : k ≤ s.size) : (outAt s k).length ≤ k := by
  have := run_out_le (s.data.toList.take k)
  rwa [take_len s k hk] at this
theorem start_le (s : ByteArray) (k : Nat) : startAt s k ≤ k := Nat.sub_le _ _
theorem opened_at (s : ByteArray) (k : Nat) : Opened (openAt s k) := opened_run _

theorem take_next (s : ByteArray) (k : Nat) (h : k < s.size) : s.data.toList.take (k + 1) = s.data.toList.take k ++ [s[k]] := by
  rw [List.take_succ_eq_append_getElem (by rw [← Lib.size_eq]; exact h)]; rfl
theorem step_at (s : ByteArray) (k : Nat) (h : k < s.size) : (outAt s (k + 1), openAt s (k + 1)) = step (outAt s k, openAt s k) s[k] := by
  unfold outAt openAt
  rw [take_next s k h, run_snoc]

/-- The open bytes are those from the start on. -/
theorem extract_open (s : ByteArray) (k : Nat) (hk : k ≤ s.size) : (s.extract (startAt s k) k).data.toList = openAt s k := by
  have h := run_kept (s.data.toList.take k)
  rw [take_len s k hk] at h
  rw [Lib.extract_data, ← List.drop_take]
  exact h.symm
theorem drop_take_succ (l : List UInt8) (a k : Nat) (hk : k < l.length) (ha : a ≤ k) : (l.take (k + 1)).drop a = (l.take k).drop a ++ [l[k]] := by
  rw [List.take_succ_eq_append_getElem hk, List.drop_append_of_le_length (by rw [List.length_take]; omega)]
theorem extract_next (s : ByteArray) (k a : Nat) (h : k < s.size) (ha : a ≤ k) : (s.extract a (k + 1)).data.toList = (s.extract a k).data.toList ++ [s[k]] := by
  rw [Lib.extract_data, Lib.extract_data, ← List.drop_take, ← List.drop_take, drop_take_succ _ a k (by rw [← Lib.size_eq]; exact h) ha]; rfl
theorem first_extract (s : ByteArray) (a k : Nat) (ha : a < k) (hk : k ≤ s.size) : first (s.extract a k).data.toList = (s[a]'(by omega)).toNat := by
  have hl : a < s.data.toList.length := by rw [← Lib.size_eq]; omega
  rw [Lib.extract_data, List.drop_eq_getElem_cons hl]
  obtain ⟨n, hn⟩ : ∃ n, k - a = n + 1 := ⟨k - a - 1, by omega⟩
  rw [hn]
  rfl

theorem val_lt (k : List UInt8) : val k < 2147483648 := by
  unfold val
  split
  · rename_i a; have := a.toNat_lt; omega
  · omega
  · omega
  · omega
  · omega

theorem decode_one (a : UInt8) (h : seqLen a.toNat = 1) (n x y z : Nat) : (Lib.decodeN n a.toNat x y z).1 = a.toNat := by
  have ha : a.toNat < 128 := by
    unfold seqLen at h
    repeat' split at h
    all_goals omega
  unfold Lib.decodeN
  rw [if_pos ha]
theorem mayF_first {a : UInt8} {x : Nat} (h : mayF [a] x = true) : (if a.toNat = 224 then 160 else if a.toNat = 240 then 144 else 128) ≤ x ∧ x ≤ (if a.toNat = 237 then 159 else if a.toNat = 244 then 143 else 191) := by
  unfold mayF low high at h
  simp only [Bool.and_eq_true, decide_eq_true_eq] at h
  exact h
theorem mayF_later {k : List UInt8} {x : Nat} (hk : 1 < k.length) (h : mayF k x = true) : 128 ≤ x ∧ x ≤ 191 := by
  unfold mayF low high at h
  simp only [Bool.and_eq_true, decide_eq_true_eq, if_pos hk] at h
  exact h
theorem decode_two (a b : UInt8) (h : seqLen a.toNat = 2) (hb : mayF [a] b.toNat = true) (y z : Nat) : (Lib.decodeN 2 a.toNat b.toNat y z).1 = val [a, b] := by
  have hm := mayF_first hb
  have ha : 194 ≤ a.toNat ∧ a.toNat ≤ 223 := by
    unfold seqLen at h
    repeat' split at h
    all_goals omega
  have h1 : 128 ≤ b.toNat ∧ b.toNat ≤ 191 := by
    revert hm
    repeat' split
    all_goals omega
  unfold Lib.decodeN val
  rw [if_neg (by omega), if_pos ⟨by omega, by omega, by omega⟩, if_pos (by omega)]
theorem decode_three (a b c : UInt8) (h : seqLen a.toNat = 3) (hb : mayF [a] b.toNat = true) (hc : mayF [a, b] c.toNat = true) (z : Nat) : (Lib.decodeN 3 a.toNat b.toNat c.toNat z).1 = val [a, b, c] := by
  have hm := mayF_first hb
  have h2 := mayF_later (by simp) hc
  have ha : 224 ≤ a.toNat ∧ a.toNat ≤ 239 := by
    unfold seqLen at h
    repeat' split at h
    all_goals omega
  have h1 : (128 ≤ b.toNat ∧ b.toNat ≤ 191) ∧ (a.toNat = 224 → 160 ≤ b.toNat) ∧ (a.toNat = 237 → b.toNat ≤ 159) := by
    revert hm
    repeat' split
    all_goals omega
  obtain ⟨h1, h1a, h1b⟩ := h1
  clear hm h hb hc
  unfold Lib.decodeN val
  rw [if_neg (by omega), if_neg (by omega), if_pos ⟨by omega, ⟨by omega, by omega⟩, by omega, by omega⟩]
  rw [if_pos]
  refine ⟨by omega, ?_⟩
  omega
theorem decode_four (a b c d : UInt8) (h : seqLen a.toNat = 4) (hb : mayF [a] b.toNat = true) (hc : mayF [a, b] c.toNat = true) (hd : mayF [a, b, c] d.toNat = true) : (Lib.decodeN 4 a.toNat b.toNat c.toNat d.toNat).1 = val [a, b, c, d] := by
  have hm := mayF_first hb
  have h2 := mayF_later (by simp) hc
  have h3 := mayF_later (by simp) hd
  have ha : 240 ≤ a.toNat ∧ a.toNat ≤ 244 := by
    unfold seqLen at h
    repeat' split at h
    all_goals omega
  have h1 : (128 ≤ b.toNat ∧ b.toNat ≤ 191) ∧ (a.toNat = 240 → 144 ≤ b.toNat) ∧ (a.toNat = 244 → b.toNat ≤ 143) := by
    revert hm
    repeat' split
    all_goals omega
  obtain ⟨h1, h1a, h1b⟩ := h1
  clear hm h hb hc hd
  unfold Lib.decodeN val
  rw [if_neg (by omega), if_neg (by omega), if_neg (by omega), if_pos ⟨by omega, ⟨by omega, by omega⟩, ⟨by omega, by omega⟩, by omega, by omega⟩]
  rw [if_pos]
  refine ⟨by omega, ?_⟩
  omega

theorem get_bytes (l : List UInt8) (i : Nat) : (ByteArray.mk l.toArray).get! i = l.getD i 0 := by
  show l.toArray[i]! = l.getD i 0
  rw [List.getElem!_toArray, List.getElem!_eq_getElem?_getD, List.getD_eq_getElem?_getD]
  rfl
/-- What Go's decoder gives for a whole sequence. -/
theorem decode_whole (t : ByteArray) (h : Pre t.data.toList) (he : seqLen (first t.data.toList) = t.data.toList.length) : (Lib.decodeGo t).1 = val t.data.toList := by
  obtain ⟨l, rfl⟩ : ∃ l : List UInt8, t = ByteArray.mk l.toArray := ⟨t.data.toList, by cases t; simp⟩
  simp only at h he ⊢
  have hz : (ByteArray.mk l.toArray).size = l.length := by show l.toArray.size = _; simp
  have h4 := seqLen_le (first l)
  unfold Lib.decodeGo
  match l, h, he, hz, h4 with
  | [a], _, he, hz, _ =>
    rw [if_neg (by rw [hz]; simp), Lib.decode_at, get_bytes]
    exact decode_one a he _ _ _ _
  | [a, b], h, he, hz, _ =>
    rw [if_neg (by rw [hz]; simp), Lib.decode_at, get_bytes, get_bytes, hz]
    exact decode_two a b he h.2 _ _
  | [a, b, c], h, he, hz, _ =>
    rw [if_neg (by rw [hz]; simp), Lib.decode_at, get_bytes, get_bytes, get_bytes, hz]
    exact decode_three a b c he h.2.1 h.2.2 _
  | [a, b, c, d], h, he, hz, _ =>
    rw [if_neg (by rw [hz]; simp), Lib.decode_at, get_bytes, get_bytes, get_bytes, get_bytes, hz]
    exact decode_four a b c d he h.2.1 h.2.2.1 h.2.2.2

end U8
end Go.Proofs.YtgmgnlgolhjhmaaDoor

namespace Go.Proofs.YtgmgnlgolhjhmaaDoor
namespace U8

/-- A whole sequence. -/
def Whole (q : List UInt8) : Prop := Pre q ∧ seqLen (first q) = q.length
/-- The number that stands for r: r itself, or U+FFFD if it is no character. -/
def fix (r : Int) : Int := if r < 0 ∨ r > 1114111 ∨ (55296 ≤ r ∧ r ≤ 57343) then 65533 else r
def enc1 (r : Int) : List UInt8 := (Utf8.encode r).data.toList
def encL (xs : List Int) : List UInt8 := xs.flatMap enc1

theorem encL_cons (r : Int) (xs : List Int) : encL (r :: xs) = enc1 r ++ encL xs := rfl
theorem bytes_encL (xs : List Int) : (runesBytes xs).data.toList = encL xs := by
  have h : ∀ (xs : List Int) (s : ByteArray), (xs.foldl (fun r n => r ++ Utf8.encode n) s).data.toList = s.data.toList ++ encL xs := by
    intro xs
    induction xs with
    | nil => intro s; simp [encL]
    | cons r xs ih =>
      intro s
      rw [List.foldl_cons, ih, encL_cons]
      simp [ByteArray.data_append, enc1]
  have := h xs ByteArray.empty
  simpa [runesBytes] using this

theorem toNat_of (n : Nat) (h : n < 256) : (UInt8.ofNat n).toNat = n := by rw [UInt8.toNat_ofNat']; omega

/-- The four forms of what is encoded. -/
theorem enc_forms (r : Int) : ∃ c : Nat, (c : Int) = fix r ∧ c ≤ 1114111 ∧ ¬ (55296 ≤ c ∧ c ≤ 57343) ∧
    enc1 r = if c < 128 then [UInt8.ofNat c] else if c < 2048 then [UInt8.ofNat (192 + c / 64), UInt8.ofNat (128 + c % 64)]
      else if c < 65536 then [UInt8.ofNat (224 + c / 4096), UInt8.ofNat (128 + c / 64 % 64), UInt8.ofNat (128 + c % 64)]
      else [UInt8.ofNat (240 + c / 262144), UInt8.ofNat (128 + c / 4096 % 64), UInt8.ofNat (128 + c / 64 % 64), UInt8.ofNat (128 + c % 64)] := by
  by_cases hv : Utf8.valid r = true
  · have h := hv
    unfold Utf8.valid at h
    simp only [Bool.or_eq_true, Bool.and_eq_true, decide_eq_true_eq] at h
    refine ⟨r.toNat, ?_, by omega, by omega, ?_⟩
    · unfold fix; rw [if_neg (by omega)]; omega
    · unfold enc1 Utf8.encode
      simp only [hv, if_true]
      repeat' split
      all_goals rfl
  · have h := hv
    unfold Utf8.valid at h
    simp only [Bool.or_eq_true, Bool.and_eq_true, decide_eq_true_eq] at h
    refine ⟨65533, ?_, by omega, by omega, ?_⟩
    · unfold fix; rw [if_pos (by omega)]; rfl
    · unfold enc1 Utf8.encode
      have hv2 : Utf8.valid r = false := by simpa using hv
      simp only [hv2, Utf8.runeError]
      rfl

theorem mayF_intro1 {a : UInt8} {x : Nat} (h1 : 128 ≤ x ∧ x ≤ 191) (h2 : a.toNat = 224 → 160 ≤ x) (h3 : a.toNat = 240 → 144 ≤ x) (h4 : a.toNat = 237 → x ≤ 159) (h5 : a.toNat = 244 → x ≤ 143) : mayF [a] x = true := by
  have e1 : low [a] ≤ x := by
    show (if a.toNat = 224 then 160 else if a.toNat = 240 then 144 else 128) ≤ x
    repeat' split
    all_goals omega
  have e2 : x ≤ high [a] := by
    show x ≤ (if a.toNat = 237 then 159 else if a.toNat = 244 then 143 else 191)
    repeat' split
    all_goals omega
  unfold mayF
  simp [e1, e2]
theorem mayF_intro2 {k : List UInt8} {x : Nat} (hk : 1 < k.length) (h1 : 128 ≤ x ∧ x ≤ 191) : mayF k x = true := by
  unfold mayF low high
  simp only [if_pos hk, Bool.and_eq_true, decide_eq_true_eq]
  exact h1
theorem seq1 {a : Nat} (h : a ≤ 127) : seqLen a = 1 := by unfold seqLen; rw [if_pos h]
theorem seq2 {a : Nat} (h : 194 ≤ a ∧ a ≤ 223) : seqLen a = 2 := by unfold seqLen; rw [if_neg (by omega), if_pos h]
theorem seq3 {a : Nat} (h : 224 ≤ a ∧ a ≤ 239) : seqLen a = 3 := by unfold seqLen; rw [if_neg (by omega), if_neg (by omega), if_pos h]
theorem seq4 {a : Nat} (h : 240 ≤ a ∧ a ≤ 244) : seqLen a = 4 := by unfold seqLen; rw [if_neg (by omega), if_neg (by omega), if_neg (by omega), if_pos h]

theorem whole1 {a : UInt8} (h : a.toNat ≤ 127) : Whole [a] := ⟨by show 1 ≤ seqLen a.toNat; rw [seq1 h]; exact Nat.le_refl _, seq1 h⟩
theorem whole2 {a b : UInt8} (h : 194 ≤ a.toNat ∧ a.toNat ≤ 223) (hb : mayF [a] b.toNat = true) : Whole [a, b] := ⟨⟨by rw [seq2 h]; exact Nat.le_refl _, hb⟩, seq2 h⟩
theorem whole3 {a b c : UInt8} (h : 224 ≤ a.toNat ∧ a.toNat ≤ 239) (hb : mayF [a] b.toNat = true) (hc : 128 ≤ c.toNat ∧ c.toNat ≤ 191) : Whole [a, b, c] :=
  ⟨⟨by rw [seq3 h]; exact Nat.le_refl _, hb, mayF_intro2 (by simp) hc⟩, seq3 h⟩
theorem whole4 {a b c d : UInt8} (h : 240 ≤ a.toNat ∧ a.toNat ≤ 244) (hb : mayF [a] b.toNat = true) (hc : 128 ≤ c.toNat ∧ c.toNat ≤ 191) (hd : 128 ≤ d.toNat ∧ d.toNat ≤ 191) : Whole [a, b, c, d] :=
  ⟨⟨by rw [seq4 h]; exact Nat.le_refl _, hb, mayF_intro2 (by simp) hc, mayF_intro2 (by simp) hd⟩, seq4 h⟩

/-- What is encoded is a whole sequence, and stands for the number. -/
theorem enc_whole (r : Int) : Whole (enc1 r) ∧ ((val (enc1 r) : Nat) : Int) = fix r := by
  obtain ⟨c, hc, h1, h2, e⟩ := enc_forms r
  rw [e, ← hc]
  clear e hc
  split
  · have t0 := toNat_of c (by omega)
    refine ⟨whole1 (by omega), ?_⟩
    show ((UInt8.ofNat c).toNat : Int) = _
    omega
  · split
    · have t0 := toNat_of (192 + c / 64) (by omega)
      have t1 := toNat_of (128 + c % 64) (by omega)
      refine ⟨whole2 (by omega) (mayF_intro1 (by omega) (by omega) (by omega) (by omega) (by omega)), ?_⟩
      show (((UInt8.ofNat (192 + c / 64)).toNat % 32 * 64 + (UInt8.ofNat (128 + c % 64)).toNat % 64 : Nat) : Int) = _
      rw [t0, t1]
      omega
    · split
      · have t0 := toNat_of (224 + c / 4096) (by omega)
        have t1 := toNat_of (128 + c / 64 % 64) (by omega)
        have t2 := toNat_of (128 + c % 64) (by omega)
        refine ⟨whole3 (by omega) (mayF_intro1 (by omega) (by omega) (by omega) (by omega) (by omega)) (by omega), ?_⟩
        show (((UInt8.ofNat (224 + c / 4096)).toNat % 16 * 4096 + (UInt8.ofNat (128 + c / 64 % 64)).toNat % 64 * 64 + (UInt8.ofNat (128 + c % 64)).toNat % 64 : Nat) : Int) = _
        rw [t0, t1, t2]
        omega
      · have t0 := toNat_of (240 + c / 262144) (by omega)
        have t1 := toNat_of (128 + c / 4096 % 64) (by omega)
        have t2 := toNat_of (128 + c / 64 % 64) (by omega)
        have t3 := toNat_of (128 + c % 64) (by omega)
        refine ⟨whole4 (by omega) (mayF_intro1 (by omega) (by omega) (by omega) (by omega) (by omega)) (by omega) (by omega), ?_⟩
        show (((UInt8.ofNat (240 + c / 262144)).toNat % 8 * 262144 + (UInt8.ofNat (128 + c / 4096 % 64)).toNat % 64 * 4096 + (UInt8.ofNat (128 + c / 64 % 64)).toNat % 64 * 64 + (UInt8.ofNat (128 + c % 64)).toNat % 64 : Nat) : Int) = _
        rw [t0, t1, t2, t3]
        omega

end U8
end Go.Proofs.YtgmgnlgolhjhmaaDoor

namespace Go.Proofs.YtgmgnlgolhjhmaaDoor
namespace U8

theorem step_end {k : List UInt8} {b : UInt8} (o : List Int) (hf : k = [] ∨ mayF k b.toNat = true) (h0 : seqLen (first (k ++ [b])) = (k ++ [b]).length) : step (o, k) b = (o ++ [(val (k ++ [b]) : Int)], []) := by
  have hs : settle (o, k) b = (o, k) := by
    unfold settle
    rw [if_neg]
    rintro ⟨a, c⟩
    rcases hf with hf | hf
    · exact a hf
    · rw [hf] at c; cases c
  unfold step
  rw [hs]
  unfold push
  rw [if_neg (by rw [h0]; simp), if_pos h0]
/-- A whole sequence decodes to its number. -/
theorem run_whole {q : List UInt8} (h : Whole q) : run q = ([(val q : Int)], []) := by
  obtain ⟨hP, he⟩ := h
  match q, hP, he with
  | [a], _, he => exact step_end (k := []) (b := a) [] (.inl rfl) he
  | [a, b], hP, he =>
    have he : seqLen a.toNat = 2 := he
    have e : run ([a] ++ [b]) = step (run [a]) b := run_snoc [a] b
    rw [run_one (by omega)] at e
    exact e.trans (step_end (k := [a]) (b := b) [] (.inr hP.2) he)
  | [a, b, c], hP, he =>
    have he : seqLen a.toNat = 3 := he
    have e : run ([a, b] ++ [c]) = step (run [a, b]) c := run_snoc [a, b] c
    rw [run_two (by omega) hP.2.1] at e
    exact e.trans (step_end (k := [a, b]) (b := c) [] (.inr hP.2.2) he)
  | [a, b, c, d], hP, he =>
    have he : seqLen a.toNat = 4 := he
    have e : run ([a, b, c] ++ [d]) = step (run [a, b, c]) d := run_snoc [a, b, c] d
    rw [run_three (by omega) hP.2.1 hP.2.2.1] at e
    exact e.trans (step_end (k := [a, b, c]) (b := d) [] (.inr hP.2.2.2) he)
theorem run_whole_append {q : List UInt8} (h : Whole q) (l : List UInt8) : run (q ++ l) = ((val q : Int) :: (run l).1, (run l).2) := by
  rw [run_append, run_whole h, runFrom_out]
  rfl
/-- What is encoded decodes to the numbers that stand for it, and nothing is left open. -/
theorem run_encL (xs : List Int) : run (encL xs) = (xs.map fix, []) := by
  induction xs with
  | nil => rfl
  | cons r xs ih =>
    obtain ⟨hw, hv⟩ := enc_whole r
    rw [encL_cons, run_whole_append hw, ih, hv]
    rfl

theorem get_app (l : List UInt8) (i : Nat) : ((ByteArray.mk l.toArray).get! i) = l.getD i 0 := get_bytes l i
theorem decodeL_eq (l : List UInt8) : Lib.decodeL l = Lib.decodeN l.length (l.getD 0 0).toNat (l.getD 1 0).toNat (l.getD 2 0).toNat (l.getD 3 0).toNat := by
  have e : Lib.decodeL l = Utf8.decode (ByteArray.mk l.toArray) 0 := rfl
  rw [e, Lib.decode_at, get_bytes, get_bytes, get_bytes, get_bytes]
  have hz : (ByteArray.mk l.toArray).size = l.length := by show l.toArray.size = _; simp
  rw [hz]
  rfl

/-- A whole sequence at the head: its number and its length. -/
theorem decodeL_whole {q : List UInt8} (h : Whole q) (l : List UInt8) : Lib.decodeL (q ++ l) = (val q, q.length) := by
  obtain ⟨hP, he⟩ := h
  rw [decodeL_eq]
  match q, hP, he with
  | [a], _, he =>
    have he : seqLen a.toNat = 1 := he
    have ha : a.toNat < 128 := by
      unfold seqLen at he
      repeat' split at he
      all_goals omega
    show Lib.decodeN _ a.toNat _ _ _ = (a.toNat, 1)
    unfold Lib.decodeN
    rw [if_pos ha]
  | [a, b], hP, he =>
    have he : seqLen a.toNat = 2 := he
    have hm := mayF_first hP.2
    have ha : 194 ≤ a.toNat ∧ a.toNat ≤ 223 := by
      unfold seqLen at he
      repeat' split at he
      all_goals omega
    have h1 : 128 ≤ b.toNat ∧ b.toNat ≤ 191 := by
      revert hm
      repeat' split
      all_goals omega
    have hn : 1 < ([a, b] ++ l).length := by simp
    show Lib.decodeN _ a.toNat b.toNat _ _ = (a.toNat % 32 * 64 + b.toNat % 64, 2)
    unfold Lib.decodeN
    rw [if_neg (by omega), if_pos ⟨by omega, hn, by omega⟩, if_pos (by omega)]
  | [a, b, c], hP, he =>
    have he : seqLen a.toNat = 3 := he
    have hm := mayF_first hP.2.1
    have h2 := mayF_later (by simp) hP.2.2
    have ha : 224 ≤ a.toNat ∧ a.toNat ≤ 239 := by
      unfold seqLen at he
      repeat' split at he
      all_goals omega
    have h1 : (128 ≤ b.toNat ∧ b.toNat ≤ 191) ∧ (a.toNat = 224 → 160 ≤ b.toNat) ∧ (a.toNat = 237 → b.toNat ≤ 159) := by
      revert hm
      repeat' split
      all_goals omega
    obtain ⟨h1, h1a, h1b⟩ := h1
    have hn : 1 < ([a, b, c] ++ l).length ∧ 2 < ([a, b, c] ++ l).length := by simp
    show Lib.decodeN _ a.toNat b.toNat c.toNat _ = (a.toNat % 16 * 4096 + b.toNat % 64 * 64 + c.toNat % 64, 3)
    unfold Lib.decodeN
    rw [if_neg (by omega), if_neg (by omega), if_pos ⟨by omega, ⟨hn.1, by omega⟩, hn.2, by omega⟩, if_pos ⟨by omega, by omega⟩]
  | [a, b, c, d], hP, he =>
    have he : seqLen a.toNat = 4 := he
    have hm := mayF_first hP.2.1
    have h2 := mayF_later (by simp) hP.2.2.1
    have h3 := mayF_later (by simp) hP.2.2.2
    have ha : 240 ≤ a.toNat ∧ a.toNat ≤ 244 := by
      unfold seqLen at he
      repeat' split at he
      all_goals omega
    have h1 : (128 ≤ b.toNat ∧ b.toNat ≤ 191) ∧ (a.toNat = 240 → 144 ≤ b.toNat) ∧ (a.toNat = 244 → b.toNat ≤ 143) := by
      revert hm
      repeat' split
      all_goals omega
    obtain ⟨h1, h1a, h1b⟩ := h1
    have hn : 1 < ([a, b, c, d] ++ l).length ∧ 2 < ([a, b, c, d] ++ l).length ∧ 3 < ([a, b, c, d] ++ l).length := by simp
    show Lib.decodeN _ a.toNat b.toNat c.toNat d.toNat = (a.toNat % 8 * 262144 + b.toNat % 64 * 4096 + c.toNat % 64 * 64 + d.toNat % 64, 4)
    unfold Lib.decodeN
    rw [if_neg (by omega), if_neg (by omega), if_neg (by omega), if_pos ⟨by omega, ⟨hn.1, by omega⟩, ⟨hn.2.1, by omega⟩, hn.2.2, by omega⟩, if_pos ⟨by omega, by omega⟩]

theorem whole_ne {q : List UInt8} (h : Whole q) : q ≠ [] := fun e => by rw [e] at h; exact h.1
theorem whole_good {q : List UInt8} (h : Whole q) : ¬ (val q = 65533 ∧ q.length = 1) := by
  rintro ⟨h1, h2⟩
  match q, h2 with
  | [a], _ =>
    have : val [a] = a.toNat := rfl
    have := a.toNat_lt
    omega
theorem valid_whole {q : List UInt8} (h : Whole q) (l : List UInt8) : Lib.validD (q ++ l) = Lib.validD l := by
  rw [Lib.validD_step _ (by intro e; exact whole_ne h (List.append_eq_nil_iff.1 e).1), decodeL_whole h]
  rw [if_neg (whole_good h)]
  simp
theorem valid_encL (xs : List Int) : Lib.validD (encL xs) = true := by
  induction xs with
  | nil => rfl
  | cons r xs ih => rw [encL_cons, valid_whole (enc_whole r).1, ih]

/-- A valid string that is not empty begins with a whole sequence. -/
theorem whole_head (l : List UInt8) (hne : l ≠ []) (h : ¬ ((Lib.decodeL l).1 = 65533 ∧ (Lib.decodeL l).2 = 1)) : ∃ q r, Whole q ∧ l = q ++ r := by
  rw [decodeL_eq] at h
  match l, hne with
  | a :: r, _ =>
    have g0 : ((a :: r).getD 0 0).toNat = a.toNat := rfl
    rw [g0] at h
    unfold Lib.decodeN at h
    have ha := a.toNat_lt
    by_cases h1 : a.toNat < 128
    · exact ⟨[a], r, whole1 (by omega), rfl⟩
    · rw [if_neg h1] at h
      match r with
      | [] =>
        exfalso
        apply h
        rw [if_neg (by simp), if_neg (by simp), if_neg (by simp)]
        exact ⟨rfl, rfl⟩
      | b :: r =>
        have g1 : ((a :: b :: r).getD 1 0).toNat = b.toNat := rfl
        have hb := b.toNat_lt
        rw [g1] at h
        by_cases h2 : a.toNat / 32 = 6 ∧ (1 < (a :: b :: r).length ∧ b.toNat / 64 = 2)
        · rw [if_pos h2] at h
          by_cases h3 : a.toNat % 32 * 64 + b.toNat % 64 ≥ 128
          · exact ⟨[a, b], r, whole2 (by omega) (mayF_intro1 (by omega) (by omega) (by omega) (by omega) (by omega)), rfl⟩
          · rw [if_neg h3] at h; exact absurd ⟨rfl, rfl⟩ h
        · rw [if_neg h2] at h
          match r with
          | [] =>
            exfalso
            apply h
            rw [if_neg (by simp), if_neg (by simp)]
            exact ⟨rfl, rfl⟩
          | c :: r =>
            have g2 : ((a :: b :: c :: r).getD 2 0).toNat = c.toNat := rfl
            have hc := c.toNat_lt
            rw [g2] at h
            by_cases h3 : a.toNat / 16 = 14 ∧ (1 < (a :: b :: c :: r).length ∧ b.toNat / 64 = 2) ∧ (2 < (a :: b :: c :: r).length ∧ c.toNat / 64 = 2)
            · rw [if_pos h3] at h
              split at h
              · rename_i h4
                exact ⟨[a, b, c], r, whole3 (by omega) (mayF_intro1 (by omega) (by omega) (by omega) (by omega) (by omega)) (by omega), rfl⟩
              · exact absurd ⟨rfl, rfl⟩ h
            · rw [if_neg h3] at h
              match r with
              | [] =>
                exfalso
                apply h
                rw [if_neg (by simp)]
                exact ⟨rfl, rfl⟩
              | d :: r =>
                have g3 : ((a :: b :: c :: d :: r).getD 3 0).toNat = d.toNat := rfl
                have hd := d.toNat_lt
                rw [g3] at h
                split at h
                · rename_i h4
                  split at h
                  · rename_i h5
                    exact ⟨[a, b, c, d], r, whole4 (by omega) (mayF_intro1 (by omega) (by omega) (by omega) (by omega) (by omega)) (by omega) (by omega), rfl⟩
                  · exact absurd ⟨rfl, rfl⟩ h
                · exact absurd ⟨rfl, rfl⟩ h

end U8
end Go.Proofs.YtgmgnlgolhjhmaaDoor

namespace Go.Proofs.YtgmgnlgolhjhmaaDoor
namespace U8

theorem of_toNat (a : UInt8) (n : Nat) (h : n = a.toNat) : UInt8.ofNat n = a := by rw [h]; exact UInt8.ofNat_toNat
/-- A whole sequence is the encoding of its number. -/
theorem enc_val {q : List UInt8} (h : Whole q) : enc1 (val q : Int) = q := by
  obtain ⟨hP, he⟩ := h
  obtain ⟨c, hc, _, _, e⟩ := enc_forms (val q : Int)
  rw [e]
  clear e
  match q, hP, he, hc with
  | [a], _, he, hc =>
    have he : seqLen a.toNat = 1 := he
    have ha : a.toNat < 128 := by
      unfold seqLen at he
      repeat' split at he
      all_goals omega
    have hv : val [a] = a.toNat := rfl
    rw [hv] at hc
    unfold fix at hc
    rw [if_neg (by omega)] at hc
    rw [if_pos (by omega), of_toNat a c (by omega)]
  | [a, b], hP, he, hc =>
    have he : seqLen a.toNat = 2 := he
    have hm := mayF_first hP.2
    have ha : 194 ≤ a.toNat ∧ a.toNat ≤ 223 := by
      unfold seqLen at he
      repeat' split at he
      all_goals omega
    have h1 : 128 ≤ b.toNat ∧ b.toNat ≤ 191 := by
      revert hm
      repeat' split
      all_goals omega
    have hv : val [a, b] = a.toNat % 32 * 64 + b.toNat % 64 := rfl
    rw [hv] at hc
    unfold fix at hc
    rw [if_neg (by omega)] at hc
    rw [if_neg (by omega), if_pos (by omega), of_toNat a _ (by omega), of_toNat b _ (by omega)]
  | [a, b, d], hP, he, hc =>
    have he : seqLen a.toNat = 3 := he
    have hm := mayF_first hP.2.1
    have h2 := mayF_later (by simp) hP.2.2
    have ha : 224 ≤ a.toNat ∧ a.toNat ≤ 239 := by
      unfold seqLen at he
      repeat' split at he
      all_goals omega
    have h1 : (128 ≤ b.toNat ∧ b.toNat ≤ 191) ∧ (a.toNat = 224 → 160 ≤ b.toNat) ∧ (a.toNat = 237 → b.toNat ≤ 159) := by
      revert hm
      repeat' split
      all_goals omega
    obtain ⟨h1, h1a, h1b⟩ := h1
    have hv : val [a, b, d] = a.toNat % 16 * 4096 + b.toNat % 64 * 64 + d.toNat % 64 := rfl
    rw [hv] at hc
    unfold fix at hc
    rw [if_neg (by omega)] at hc
    rw [if_neg (by omega), if_neg (by omega), if_pos (by omega), of_toNat a _ (by omega), of_toNat b _ (by omega), of_toNat d _ (by omega)]
  | [a, b, d, f], hP, he, hc =>
    have he : seqLen a.toNat = 4 := he
    have hm := mayF_first hP.2.1
    have h2 := mayF_later (by simp) hP.2.2.1
    have h3 := mayF_later (by simp) hP.2.2.2
    have ha : 240 ≤ a.toNat ∧ a.toNat ≤ 244 := by
      unfold seqLen at he
      repeat' split at he
      all_goals omega
    have h1 : (128 ≤ b.toNat ∧ b.toNat ≤ 191) ∧ (a.toNat = 240 → 144 ≤ b.toNat) ∧ (a.toNat = 244 → b.toNat ≤ 143) := by
      revert hm
      repeat' split
      all_goals omega
    obtain ⟨h1, h1a, h1b⟩ := h1
    have hv : val [a, b, d, f] = a.toNat % 8 * 262144 + b.toNat % 64 * 4096 + d.toNat % 64 * 64 + f.toNat % 64 := rfl
    rw [hv] at hc
    unfold fix at hc
    rw [if_neg (by omega)] at hc
    rw [if_neg (by omega), if_neg (by omega), if_neg (by omega), of_toNat a _ (by omega), of_toNat b _ (by omega), of_toNat d _ (by omega), of_toNat f _ (by omega)]

/-- Along a valid string: a whole sequence, and the rest is valid. -/
theorem valid_cut {l : List UInt8} (hne : l ≠ []) (h : Lib.validD l = true) : ∃ q r, Whole q ∧ l = q ++ r ∧ Lib.validD r = true := by
  rw [Lib.validD_step l hne] at h
  by_cases hb : (Lib.decodeL l).1 = 65533 ∧ (Lib.decodeL l).2 = 1
  · rw [if_pos hb] at h; cases h
  · obtain ⟨q, r, hw, e⟩ := whole_head l hne hb
    refine ⟨q, r, hw, e, ?_⟩
    rw [if_neg hb, e, decodeL_whole hw] at h
    simpa using h
theorem valid_run (n : Nat) : ∀ l : List UInt8, l.length ≤ n → Lib.validD l = true → (run l).2 = [] ∧ encL (run l).1 = l := by
  induction n with
  | zero =>
    intro l hl _
    rw [List.eq_nil_of_length_eq_zero (by omega : l.length = 0)]
    exact ⟨rfl, rfl⟩
  | succ n ih =>
    intro l hl h
    by_cases hne : l = []
    · rw [hne]; exact ⟨rfl, rfl⟩
    · obtain ⟨q, r, hw, e, hr⟩ := valid_cut hne h
      have hq := List.length_pos_iff.2 (whole_ne hw)
      have hlen : l.length = q.length + r.length := by rw [e, List.length_append]
      obtain ⟨h1, h2⟩ := ih r (by omega) hr
      rw [e, run_whole_append hw]
      refine ⟨h1, ?_⟩
      rw [encL_cons, enc_val hw, h2]
theorem valid_iff (l : List UInt8) : Lib.validD l = true ↔ ((run l).2 = [] ∧ encL (run l).1 = l) := by
  constructor
  · exact valid_run l.length l (Nat.le_refl _)
  · rintro ⟨_, h2⟩
    rw [← h2]
    exact valid_encL _

theorem decode_drop (s : ByteArray) (i : Nat) (_hi : i ≤ s.size) : Utf8.decode s i = Lib.decodeL (s.data.toList.drop i) := by
  have hg : ∀ j, s.get! (i + j) = (s.data.toList.drop i).getD j 0 := by
    intro j
    obtain ⟨l, rfl⟩ : ∃ l : List UInt8, s = ByteArray.mk l.toArray := ⟨s.data.toList, by cases s; simp⟩
    rw [get_bytes]
    simp [List.getD_eq_getElem?_getD, List.getElem?_drop]
  rw [Lib.decode_at, decodeL_eq, hg 1, hg 2, hg 3]
  have h0 := hg 0
  rw [Nat.add_zero] at h0
  rw [h0, List.length_drop, ← Lib.size_eq]
/-- Go's own list of the numbers of a valid string. -/
theorem runes_from (s : ByteArray) (n : Nat) : ∀ (i : Nat) (acc : Array Value), i ≤ s.size → s.size - i ≤ n → Lib.validD (s.data.toList.drop i) = true →
    Conv.runesFrom s n i acc = acc ++ ((run (s.data.toList.drop i)).1.map (Value.int .i32)).toArray := by
  induction n with
  | zero =>
    intro i acc hi hn _
    have e : s.data.toList.drop i = [] := List.drop_of_length_le (by rw [← Lib.size_eq]; omega)
    rw [e]
    show acc = acc ++ #[]
    simp
  | succ n ih =>
    intro i acc hi hn hv
    unfold Conv.runesFrom
    by_cases hlt : i < s.size
    · rw [if_pos hlt]
      have hne : s.data.toList.drop i ≠ [] := by
        intro e
        have := congrArg List.length e
        rw [List.length_drop, ← Lib.size_eq] at this
        simp at this
        omega
      obtain ⟨q, r, hw, e, hr⟩ := valid_cut hne hv
      have hq := List.length_pos_iff.2 (whole_ne hw)
      have hlen : (s.data.toList.drop i).length = q.length + r.length := by rw [e, List.length_append]
      rw [List.length_drop, ← Lib.size_eq] at hlen
      have hd : s.data.toList.drop (i + q.length) = r := by
        rw [← List.drop_drop, e]; simp
      rw [decode_drop s i hi, e, decodeL_whole hw, run_whole_append hw]
      simp only
      rw [ih (i + q.length) _ (by omega) (by omega) (by rw [hd]; exact hr), hd]
      simp
    · rw [if_neg hlt]
      have e : s.data.toList.drop i = [] := List.drop_of_length_le (by rw [← Lib.size_eq]; omega)
      rw [e]
      show acc = acc ++ #[]
      simp
theorem runes_valid (s : ByteArray) (h : Lib.validD s.data.toList = true) : Conv.runesFrom s s.size 0 #[] = ((run s.data.toList).1.map (Value.int .i32)).toArray := by
  have := runes_from s s.size 0 #[] (Nat.zero_le _) (by omega) h
  rw [this]
  simp

/-- Every number that is decoded is one of a rune's. -/
theorem step_range (st : List Int × List UInt8) (b : UInt8) (h : ∀ z ∈ st.1, -2147483648 ≤ z ∧ z ≤ 2147483647) : ∀ z ∈ (step st b).1, -2147483648 ≤ z ∧ z ≤ 2147483647 := by
  have hs : ∀ z ∈ (settle st b).1, -2147483648 ≤ z ∧ z ≤ 2147483647 := by
    intro z hz
    unfold settle at hz
    split at hz
    · rw [List.mem_append] at hz
      rcases hz with hz | hz
      · exact h z hz
      · simp at hz; omega
    · exact h z hz
  intro z hz
  unfold step push at hz
  split at hz
  · rw [List.mem_append] at hz
    rcases hz with hz | hz
    · exact hs z hz
    · simp at hz; omega
  · split at hz
    · rw [List.mem_append] at hz
      rcases hz with hz | hz
      · exact hs z hz
      · have := val_lt ((settle st b).2 ++ [b])
        simp only [List.mem_singleton] at hz
        omega
    · exact hs z hz
theorem runFrom_range (l : List UInt8) : ∀ st : List Int × List UInt8, (∀ z ∈ st.1, -2147483648 ≤ z ∧ z ≤ 2147483647) → ∀ z ∈ (runFrom st l).1, -2147483648 ≤ z ∧ z ≤ 2147483647 := by
  induction l with
  | nil => intro st h; exact h
  | cons b l ih => intro st h; rw [runFrom_cons]; exact ih _ (step_range st b h)
theorem run_range (l : List UInt8) : ∀ z ∈ (run l).1, -2147483648 ≤ z ∧ z ≤ 2147483647 := runFrom_range l _ (fun z hz => by cases hz)

end U8
end Go.Proofs.YtgmgnlgolhjhmaaDoor

namespace Go.Proofs.YtgmgnlgolhjhmaaDoor
namespace Cl
open U8 (fix encL enc1 run)

def isMark (r : Int) : Bool := Cw.hits Cw.marks r
def isBase (r : Int) : Bool := decide (0 < Cw.wd r)

theorem base_not_mark {r : Int} (h : isBase r = true) : isMark r = false := by
  cases e : isMark r
  · rfl
  · have := Cw.wd_mark e
    unfold isBase at h
    rw [this] at h
    cases h
theorem mark_not_base {r : Int} (h : isMark r = true) : isBase r = false := by
  have := Cw.wd_mark h
  unfold isBase
  rw [this]
  rfl
theorem other_ctl {r : Int} (h1 : isMark r = false) (h2 : isBase r = false) : Cw.wd r = -1 := by
  have h3 : Cw.wd r ≠ 0 := fun e => by
    have := (Cw.wd_zero r).1 e
    unfold isMark at h1
    rw [this] at h1
    cases h1
  unfold isBase at h2
  have h4 : ¬ 0 < Cw.wd r := by simpa using h2
  rcases Cw.wd_cases r with h | h | h | h <;> omega
theorem ctl_other {r : Int} (h : Cw.wd r = -1) : isMark r = false ∧ isBase r = false := by
  refine ⟨?_, by unfold isBase; rw [h]; rfl⟩
  cases e : isMark r
  · rfl
  · have := Cw.wd_mark e
    omega
theorem fix_mark {r : Int} (h : isMark r = true) : fix r = r := by
  have := (Cw.hits_marks r).1 h
  unfold fix
  rw [if_neg (by omega)]
theorem wd_fix {r : Int} (h : isBase r = true) : Cw.wd (fix r) = Cw.wd r := by
  unfold isBase at h
  have h0 : 0 < Cw.wd r := by simpa using h
  unfold fix
  split
  · rename_i hr
    have hc : Cw.ctl r = false := by
      cases e : Cw.ctl r
      · rfl
      · have := Cw.wd_ctl e; omega
    have hm : Cw.hits Cw.marks r = false := by
      cases e : Cw.hits Cw.marks r
      · rfl
      · have := Cw.wd_mark e; omega
    have hn : ¬ r < 32 := fun e => by
      have := (Cw.ctl_iff r).2 (.inl e)
      rw [hc] at this
      cases this
    have hw : Cw.hits Cw.wide r = false := by
      cases e : Cw.hits Cw.wide r
      · rfl
      · have := (Cw.hits_wide r).1 e; omega
    rw [Cw.wd_one hc hm hw]
    decide
  · rfl
theorem base_fix {r : Int} (h : isBase r = true) : isBase (fix r) = true := by
  have := wd_fix h
  unfold isBase at h ⊢
  rw [this]
  exact h

/-- Splitting: the clusters that are done, and the last one; none yet: []. -/
def step (st : List (List Int) × List Int) (r : Int) : List (List Int) × List Int :=
  if isMark r = true then
    if st.2 = [] then (st.1, [32, r])
    else if st.2.length < 4 then (st.1, st.2 ++ [r]) else st
  else if isBase r = true then (if st.2 = [] then st.1 else st.1 ++ [st.2], [r])
  else st
def full (st : List (List Int) × List Int) : List (List Int) := if st.2 = [] then st.1 else st.1 ++ [st.2]
def go (st : List (List Int) × List Int) (l : List Int) : List (List Int) × List Int := l.foldl step st
def split (l : List Int) : List (List Int) := full (go ([], []) l)

theorem full_start : full ([], []) = [] := rfl
theorem go_nil (st : List (List Int) × List Int) : go st [] = st := rfl
theorem go_cons (st : List (List Int) × List Int) (r : Int) (l : List Int) : go st (r :: l) = go (step st r) l := rfl
theorem go_append (st : List (List Int) × List Int) (a b : List Int) : go st (a ++ b) = go (go st a) b := List.foldl_append
theorem go_snoc (st : List (List Int) × List Int) (a : List Int) (r : Int) : go st (a ++ [r]) = step (go st a) r := by rw [go_append]; rfl

theorem step_base (st : List (List Int) × List Int) {r : Int} (h : isBase r = true) : step st r = (full st, [r]) := by
  unfold step
  rw [if_neg (by rw [base_not_mark h]; simp), if_pos h]
  rfl
theorem step_ctl (st : List (List Int) × List Int) {r : Int} (h1 : isMark r = false) (h2 : isBase r = false) : step st r = st := by
  unfold step
  rw [if_neg (by rw [h1]; simp), if_neg (by rw [h2]; simp)]
theorem step_first (o : List (List Int)) {r : Int} (h : isMark r = true) : step (o, []) r = (o, [32, r]) := by
  unfold step
  rw [if_pos h, if_pos rfl]
theorem step_room (o : List (List Int)) {c : List Int} {r : Int} (h : isMark r = true) (hc : c ≠ []) (hl : c.length < 4) : step (o, c) r = (o, c ++ [r]) := by
  unfold step
  rw [if_pos h, if_neg hc, if_pos hl]
theorem step_full (o : List (List Int)) {c : List Int} {r : Int} (h : isMark r = true) (hc : c ≠ []) (hl : ¬ c.length < 4) : step (o, c) r = (o, c) := by
  unfold step
  rw [if_pos h, if_neg hc, if_neg hl]

/-- A base and at most three marks. -/
def Good (g : List Int) : Prop := ∃ b ms, g = b :: ms ∧ isBase b = true ∧ (∀ m ∈ ms, isMark m = true) ∧ ms.length ≤ 3
theorem Good.ne {g : List Int} (h : Good g) : g ≠ [] := by obtain ⟨b, ms, rfl, _⟩ := h; simp
theorem Good.len {g : List Int} (h : Good g) : g.length ≤ 4 := by obtain ⟨b, ms, rfl, _, _, h⟩ := h; simp; omega
theorem Good.one {r : Int} (h : isBase r = true) : Good [r] := ⟨r, [], rfl, h, (fun m hm => by cases hm), by simp⟩
theorem space_base : isBase 32 = true := by decide
theorem Good.snoc {g : List Int} {r : Int} (h : Good g) (hr : isMark r = true) (hl : g.length < 4) : Good (g ++ [r]) := by
  obtain ⟨b, ms, rfl, h1, h2, h3⟩ := h
  simp only [List.length_cons] at hl
  refine ⟨b, ms ++ [r], rfl, h1, fun m hm => ?_, by simp; omega⟩
  rcases List.mem_append.1 hm with hm | hm
  · exact h2 m hm
  · rw [List.mem_singleton] at hm; rw [hm]; exact hr
theorem Good.fix {g : List Int} (h : Good g) : Good (g.map U8.fix) := by
  obtain ⟨b, ms, rfl, h1, h2, h3⟩ := h
  refine ⟨U8.fix b, ms.map U8.fix, rfl, base_fix h1, fun m hm => ?_, by simpa using h3⟩
  obtain ⟨m', hm', rfl⟩ := List.mem_map.1 hm
  rw [fix_mark (h2 m' hm')]
  exact h2 m' hm'

/-- What splitting keeps: what is done is good, the last one is good or there is none, and then none is done. -/
def Keeps (st : List (List Int) × List Int) : Prop := (∀ g ∈ st.1, Good g) ∧ (st.2 = [] → st.1 = []) ∧ (st.2 ≠ [] → Good st.2)
theorem Keeps.full {st : List (List Int) × List Int} (h : Keeps st) : ∀ g ∈ full st, Good g := by
  intro g hg
  unfold Cl.full at hg
  split at hg
  · exact h.1 g hg
  · rename_i hne
    rcases List.mem_append.1 hg with hg | hg
    · exact h.1 g hg
    · rw [List.mem_singleton] at hg; rw [hg]; exact h.2.2 hne
theorem Keeps.step {st : List (List Int) × List Int} (h : Keeps st) (r : Int) : Keeps (step st r) := by
  obtain ⟨o, c⟩ := st
  cases hm : isMark r
  · cases hb : isBase r
    · rw [step_ctl _ hm hb]; exact h
    · rw [step_base _ hb]
      exact ⟨h.full, (fun e => by cases e), fun _ => Good.one hb⟩
  · by_cases hc : c = []
    · subst hc
      rw [step_first o hm]
      refine ⟨h.1, (fun e => by cases e), fun _ => ?_⟩
      exact (Good.one space_base).snoc hm (by simp)
    · by_cases hl : c.length < 4
      · rw [step_room o hm hc hl]
        exact ⟨h.1, (fun e => by simp at e), fun _ => (h.2.2 hc).snoc hm hl⟩
      · rw [step_full o hm hc hl]; exact h
theorem Keeps.go (l : List Int) : ∀ {st : List (List Int) × List Int}, Keeps st → Keeps (go st l) := by
  induction l with
  | nil => intro st h; exact h
  | cons r l ih => intro st h; rw [go_cons]; exact ih (h.step r)
theorem keeps_start : Keeps ([], []) := ⟨(fun g hg => by cases hg), (fun _ => rfl), fun h => absurd rfl h⟩
theorem keeps_go (l : List Int) : Keeps (go ([], []) l) := keeps_start.go l
theorem split_good (l : List Int) : ∀ g ∈ split l, Good g := (keeps_go l).full

/-- How long splitting makes things. -/
theorem step_len (st : List (List Int) × List Int) (r : Int) : (full (step st r)).length ≤ (full st).length + 1 := by
  obtain ⟨o, c⟩ := st
  cases hm : isMark r
  · cases hb : isBase r
    · rw [step_ctl _ hm hb]; omega
    · rw [step_base _ hb]
      simp [full]
  · by_cases hc : c = []
    · subst hc
      rw [step_first o hm]
      simp [full]
    · by_cases hl : c.length < 4
      · rw [step_room o hm hc hl]
        simp [full, hc]
      · rw [step_full o hm hc hl]; omega
theorem go_len (l : List Int) : ∀ st : List (List Int) × List Int, (full (go st l)).length ≤ (full st).length + l.length := by
  induction l with
  | nil => intro st; simp [go_nil]
  | cons r l ih =>
    intro st
    have h1 := ih (step st r)
    have h2 := step_len st r
    rw [go_cons, List.length_cons]
    omega
theorem split_len (l : List Int) : (split l).length ≤ l.length := by
  have := go_len l ([], [])
  rw [full_start] at this
  unfold split
  simpa using this

/-- A good list of characters behind others is a cluster of its own. -/
theorem go_marks (o : List (List Int)) (ms : List Int) (hm : ∀ m ∈ ms, isMark m = true) : ∀ c : List Int, c ≠ [] → c.length + ms.length ≤ 4 → go (o, c) ms = (o, c ++ ms) := by
  induction ms with
  | nil => intro c _ _; simp [go_nil]
  | cons m ms ih =>
    intro c hc hl
    simp only [List.length_cons] at hl
    rw [go_cons, step_room o (hm m (.head _)) hc (by omega), ih (fun m' h' => hm m' (.tail _ h')) _ (by simp) (by simp; omega)]
    simp
theorem go_good (st : List (List Int) × List Int) {g : List Int} (h : Good g) : go st g = (full st, g) := by
  obtain ⟨b, ms, rfl, h1, h2, h3⟩ := h
  rw [go_cons, step_base _ h1, go_marks _ ms h2 _ (by simp) (by simp; omega)]
  rfl
theorem full_go_flatten (gs : List (List Int)) (h : ∀ g ∈ gs, Good g) : ∀ st : List (List Int) × List Int, full (go st gs.flatten) = full st ++ gs := by
  induction gs with
  | nil => intro st; simp [go_nil]
  | cons g gs ih =>
    intro st
    rw [List.flatten_cons, go_append, go_good st (h g (.head _)), ih (fun g' h' => h g' (.tail _ h'))]
    have hne := (h g (.head _)).ne
    simp [full, hne]
theorem split_flatten (gs : List (List Int)) (h : ∀ g ∈ gs, Good g) : split gs.flatten = gs := by
  have := full_go_flatten gs h ([], [])
  rw [full_start] at this
  unfold split
  simpa using this
theorem split_good_one {g : List Int} (h : Good g) : split g = [g] := by
  have := split_flatten [g] (fun g' h' => by rw [List.mem_singleton] at h'; rw [h']; exact h)
  simpa using this
theorem flatten_fix (gs : List (List Int)) : gs.flatten.map fix = (gs.map (List.map fix)).flatten := by
  induction gs with
  | nil => rfl
  | cons g gs ih => simp [ih]
/-- Splitting the characters of what was split. -/
theorem split_again (l : List Int) : split ((split l).flatten.map fix) = (split l).map (List.map fix) := by
  rw [flatten_fix]
  refine split_flatten _ fun g hg => ?_
  obtain ⟨g', hg', rfl⟩ := List.mem_map.1 hg
  exact (split_good l g' hg').fix
theorem flatten_len (gs : List (List Int)) (h : ∀ g ∈ gs, Good g) : gs.flatten.length ≤ 4 * gs.length := by
  induction gs with
  | nil => simp
  | cons g gs ih =>
    have h1 := (h g (.head _)).len
    have h2 := ih (fun g' h' => h g' (.tail _ h'))
    simp only [List.flatten_cons, List.length_append, List.length_cons]
    omega

/-- More marks than there is room for. -/
theorem go_many (o : List (List Int)) (ms : List Int) (hm : ∀ m ∈ ms, isMark m = true) : ∀ (b : Int) (t : List Int), t.length ≤ 3 → go (o, b :: t) ms = (o, b :: (t ++ ms).take 3) := by
  induction ms with
  | nil => intro b t ht; rw [go_nil, List.append_nil, List.take_of_length_le ht]
  | cons m ms ih =>
    intro b t ht
    by_cases hl : t.length < 3
    · rw [go_cons, step_room o (hm m (.head _)) (by simp) (by simp; omega)]
      have := ih (fun m' h' => hm m' (.tail _ h')) b (t ++ [m]) (by simp; omega)
      rw [List.cons_append, this]
      simp
    · rw [go_cons, step_full o (hm m (.head _)) (by simp) (by simp; omega), ih (fun m' h' => hm m' (.tail _ h')) b t ht]
      have e : t.length = 3 := by omega
      rw [List.take_append_of_le_length (by omega), List.take_append_of_le_length (by omega)]
theorem split_many {b : Int} {ms : List Int} (hb : isBase b = true) (hm : ∀ m ∈ ms, isMark m = true) : split (b :: ms) = [b :: ms.take 3] := by
  unfold split
  rw [go_cons, step_base _ hb, go_many _ ms hm b [] (by simp)]
  simp [full]

/-- Splitting behind other characters. -/
theorem full_shift_step (a o : List (List Int)) (c : List Int) (r : Int) : step (a ++ o, c) r = (a ++ (step (o, c) r).1, (step (o, c) r).2) := by
  cases hm : isMark r
  · cases hb : isBase r
    · rw [step_ctl _ hm hb, step_ctl _ hm hb]
    · rw [step_base _ hb, step_base _ hb]
      by_cases hc : c = [] <;> simp [full, hc]
  · by_cases hc : c = []
    · subst hc
      rw [step_first _ hm, step_first _ hm]
    · by_cases hl : c.length < 4
      · rw [step_room _ hm hc hl, step_room _ hm hc hl]
      · rw [step_full _ hm hc hl, step_full _ hm hc hl]
theorem go_shift (l : List Int) : ∀ (a o : List (List Int)) (c : List Int), go (a ++ o, c) l = (a ++ (go (o, c) l).1, (go (o, c) l).2) := by
  induction l with
  | nil => intro a o c; rfl
  | cons r l ih =>
    intro a o c
    rw [go_cons, go_cons, full_shift_step]
    obtain ⟨x, y⟩ := step (o, c) r
    exact ih a x y
theorem full_shift (a o : List (List Int)) (c : List Int) : full (a ++ o, c) = a ++ full (o, c) := by
  unfold full
  by_cases hc : c = [] <;> simp [hc]
theorem go_ctl (l : List Int) (h : ∀ r ∈ l, Cw.wd r = -1) : ∀ st : List (List Int) × List Int, go st l = st := by
  induction l with
  | nil => intro st; rfl
  | cons r l ih =>
    intro st
    have := ctl_other (h r (.head _))
    rw [go_cons, step_ctl _ this.1 this.2, ih (fun r' h' => h r' (.tail _ h'))]
/-- Control characters, then nothing or a base. -/
def Apart (b : List Int) : Prop := ∃ x y, b = x ++ y ∧ (∀ r ∈ x, Cw.wd r = -1) ∧ (y = [] ∨ ∃ r t, y = r :: t ∧ isBase r = true)
theorem split_apart (a : List Int) {b : List Int} (h : Apart b) : split (a ++ b) = split a ++ split b := by
  obtain ⟨x, y, rfl, hx, hy⟩ := h
  unfold split
  rw [go_append, go_append, go_append, go_ctl x hx, go_ctl x hx]
  rcases hy with rfl | ⟨r, t, rfl, hr⟩
  · rw [go_nil, go_nil, full_start, List.append_nil]
  · rw [go_cons, go_cons, step_base _ hr, step_base _ hr]
    have e := go_shift t (full (go ([], []) a)) [] [r]
    rw [List.append_nil] at e
    rw [e, full_shift]
    rfl

/-- The bases and what comes before them, counted. -/
def count (st : Int × Int) (r : Int) : Int × Int :=
  if isMark r = true then (st.1, if st.1 = 0 then 1 else st.2) else if isBase r = true then (st.1 + 1, st.2) else st
def counts (l : List Int) : Int × Int := l.foldl count (0, 0)
def sums (l : List Int) : Int × Int := l.foldl (fun st r => if isMark r = true then (if st.2 = 0 then (st.1 + 1, 1) else st) else if isBase r = true then (st.1 + Cw.wd r, st.2 + 1) else st) (0, 0)
def widthOf (g : List Int) : Int := Cw.wd (fix (g.headD 0))
def widths (gs : List (List Int)) : Int := (gs.map widthOf).sum

theorem counts_snoc (l : List Int) (r : Int) : counts (l ++ [r]) = count (counts l) r := by unfold counts; rw [List.foldl_append]; rfl
theorem counts_facts (l : List Int) : ∃ n e : Nat, counts l = ((n : Int), (e : Int)) ∧ e ≤ 1 ∧ n ≤ l.length ∧ (split l).length = n + e ∧ ((go ([], []) l).2 = [] ↔ n + e = 0) := by
  suffices h : ∀ k : Nat, ∀ l : List Int, l.length = k → ∃ n e : Nat, counts l = ((n : Int), (e : Int)) ∧ e ≤ 1 ∧ n ≤ l.length ∧ (split l).length = n + e ∧ ((go ([], []) l).2 = [] ↔ n + e = 0) from h l.length l rfl
  intro k
  induction k with
  | zero =>
    intro l hl
    rw [List.eq_nil_of_length_eq_zero hl]
    exact ⟨0, 0, rfl, by omega, by simp, by simp [split, go_nil, full], by simp [go_nil]⟩
  | succ k ih =>
    intro l hl
    obtain ⟨l', r, rfl⟩ : ∃ l' r, l = l' ++ [r] := ⟨l.dropLast, l.getLast (by intro e; rw [e] at hl; cases hl), (List.dropLast_concat_getLast _).symm⟩
    have hl' : l'.length = k := by simp at hl; exact hl
    obtain ⟨n, e, h1, h2, h3, h4, h5⟩ := ih l' hl'
    have hk := keeps_go l'
    unfold split at h4
    rw [counts_snoc, h1]
    unfold split
    rw [go_snoc]
    generalize go ([], []) l' = st at h4 h5 hk
    obtain ⟨o, c⟩ := st
    simp only at h5
    unfold count
    simp only [List.length_append, List.length_cons, List.length_nil]
    cases hm : isMark r
    · cases hb : isBase r
      · refine ⟨n, e, by simp, h2, by omega, ?_, ?_⟩
        · rw [step_ctl _ hm hb]; exact h4
        · rw [step_ctl _ hm hb]; exact h5
      · refine ⟨n + 1, e, by simp, h2, by omega, ?_, ?_⟩
        · rw [step_base _ hb]
          have e3 : full (full (o, c), [r]) = full (o, c) ++ [[r]] := rfl
          rw [e3, List.length_append, h4]
          simp only [List.length_cons, List.length_nil]
          omega
        · rw [step_base _ hb]
          simp
    · by_cases hc : c = []
      · subst hc
        have h0 : n + e = 0 := h5.1 rfl
        obtain ⟨rfl, rfl⟩ : n = 0 ∧ e = 0 := by omega
        have ho : o = [] := hk.2.1 rfl
        subst ho
        refine ⟨0, 1, by simp, by omega, by omega, ?_, ?_⟩
        · rw [step_first _ hm]; simp [full]
        · rw [step_first _ hm]; simp
      · have hne : n + e ≠ 0 := fun h => hc (h5.2 h)
        have hst : full (step (o, c) r) = full (o, c) ∨ (full (step (o, c) r)).length = (full (o, c)).length ∧ (step (o, c) r).2 ≠ [] := by
          by_cases hl : c.length < 4
          · right; rw [step_room o hm hc hl]; simp [full, hc]
          · left; rw [step_full o hm hc hl]
        have hlen : (full (step (o, c) r)).length = n + e := by
          rcases hst with h | h
          · rw [h]; exact h4
          · rw [h.1]; exact h4
        have hcur : (step (o, c) r).2 ≠ [] := by
          by_cases hl : c.length < 4
          · rw [step_room o hm hc hl]; simp
          · rw [step_full o hm hc hl]; exact hc
        by_cases hn : n = 0
        · obtain ⟨rfl, rfl⟩ : n = 0 ∧ e = 1 := by omega
          exact ⟨0, 1, by simp, by omega, by omega, hlen, ⟨fun h => absurd h hcur, fun h => absurd h hne⟩⟩
        · refine ⟨n, e, by simp [hn], h2, by omega, hlen, ⟨fun h => absurd h hcur, fun h => absurd h hne⟩⟩

theorem sums_snoc (l : List Int) (r : Int) : sums (l ++ [r]) = if isMark r = true then (if (sums l).2 = 0 then ((sums l).1 + 1, 1) else sums l) else if isBase r = true then ((sums l).1 + Cw.wd r, (sums l).2 + 1) else sums l := by
  unfold sums; rw [List.foldl_append]; rfl
theorem widths_append (a b : List (List Int)) : widths (a ++ b) = widths a + widths b := by
  unfold widths
  rw [List.map_append, List.sum_append]
theorem widths_one (g : List Int) : widths [g] = widthOf g := by simp [widths]
theorem widthOf_snoc {g : List Int} (r : Int) (h : g ≠ []) : widthOf (g ++ [r]) = widthOf g := by
  cases g with
  | nil => exact absurd rfl h
  | cons a g => rfl
theorem widthOf_bounds (g : List Int) : -1 ≤ widthOf g ∧ widthOf g ≤ 2 := by
  unfold widthOf
  rcases Cw.wd_cases (fix (g.headD 0)) with h | h | h | h <;> omega
theorem sums_facts (l : List Int) : ∃ n : Nat, (sums l).2 = (n : Int) ∧ n ≤ l.length ∧ 0 ≤ (sums l).1 ∧ (sums l).1 ≤ 2 * (l.length : Int) ∧ widths (split l) = (sums l).1 ∧ ((go ([], []) l).2 = [] ↔ n = 0) := by
  suffices h : ∀ k : Nat, ∀ l : List Int, l.length = k → ∃ n : Nat, (sums l).2 = (n : Int) ∧ n ≤ l.length ∧ 0 ≤ (sums l).1 ∧ (sums l).1 ≤ 2 * (l.length : Int) ∧ widths (split l) = (sums l).1 ∧ ((go ([], []) l).2 = [] ↔ n = 0) from h l.length l rfl
  intro k
  induction k with
  | zero =>
    intro l hl
    rw [List.eq_nil_of_length_eq_zero hl]
    exact ⟨0, rfl, by simp, by simp [sums], by simp [sums], by simp [split, go_nil, full, widths, sums], by simp [go_nil]⟩
  | succ k ih =>
    intro l hl
    obtain ⟨l', r, rfl⟩ : ∃ l' r, l = l' ++ [r] := ⟨l.dropLast, l.getLast (by intro e; rw [e] at hl; cases hl), (List.dropLast_concat_getLast _).symm⟩
    have hl' : l'.length = k := by simp at hl; exact hl
    obtain ⟨n, h1, h2, h3, h4, h5, h6⟩ := ih l' hl'
    have hk := keeps_go l'
    unfold split at h5
    rw [sums_snoc]
    unfold split
    rw [go_snoc]
    generalize go ([], []) l' = st at h5 h6 hk
    generalize sums l' = sm at h1 h3 h4 h5
    obtain ⟨o, c⟩ := st
    obtain ⟨z, y⟩ := sm
    simp only at h1 h3 h4 h5 h6
    subst h1
    simp only [List.length_append, List.length_cons, List.length_nil, Nat.zero_add, Int.natCast_add, Int.natCast_one]
    cases hm : isMark r
    · cases hb : isBase r
      · rw [step_ctl _ hm hb]
        exact ⟨n, by simp, by omega, by simpa using h3, by simp; omega, by simpa using h5, h6⟩
      · have hw : 0 < Cw.wd r := by unfold isBase at hb; simpa using hb
        have hw2 : Cw.wd r ≤ 2 := by rcases Cw.wd_cases r with h | h | h | h <;> omega
        rw [step_base _ hb]
        refine ⟨n + 1, by simp, by omega, by simp; omega, by simp; omega, ?_, by simp⟩
        have e : full (full (o, c), [r]) = full (o, c) ++ [[r]] := rfl
        rw [e, widths_append, h5, widths_one]
        have e2 : widthOf [r] = Cw.wd r := wd_fix hb
        rw [e2]
        simp
    · by_cases hc : c = []
      · subst hc
        have h0 : n = 0 := h6.1 rfl
        subst h0
        have ho : o = [] := hk.2.1 rfl
        subst ho
        rw [step_first _ hm]
        have hz : z = 0 := by rw [← h5]; rfl
        subst hz
        have hws : widthOf [32, r] = 1 := by
          show Cw.wd (fix 32) = 1
          decide
        exact ⟨1, by simp, by omega, by simp, by simp; omega, by simp [full, widths, hws], by simp⟩
      · have hne : n ≠ 0 := fun h => hc (h6.2 h)
        have hcur : (step (o, c) r).2 ≠ [] := by
          by_cases hl : c.length < 4
          · rw [step_room o hm hc hl]; simp
          · rw [step_full o hm hc hl]; exact hc
        have hww : widths (full (step (o, c) r)) = widths (full (o, c)) := by
          by_cases hl : c.length < 4
          · rw [step_room o hm hc hl]
            unfold full
            rw [if_neg (by simp), if_neg hc]
            simp only [widths_append, widths_one, widthOf_snoc r hc]
          · rw [step_full o hm hc hl]
        refine ⟨n, by simp [hne], by omega, by simp [hne]; exact h3, by simp [hne]; omega, ?_, ⟨fun h => absurd h hcur, fun h => absurd h hne⟩⟩
        rw [hww, h5]
        simp [hne]

/-- Which error a string has as a cluster. -/
def chk (l : List UInt8) : Nat :=
  if l = [] ∨ Lib.validD l = false then 3
  else if isBase ((run l).1.headD 0) = false ∨ (run l).1.tail.all isMark = false then 9
  else if 3 < (run l).1.tail.length then 5 else 0

theorem chk_good {g : List Int} (h : Good g) : chk (encL g) = 0 ∧ (run (encL g)).1 = g.map fix := by
  have hr := U8.run_encL g
  have h2 := h.fix
  have hne := h.ne
  have hv := U8.valid_encL g
  have he : encL g ≠ [] := fun e => by
    rw [e] at hr
    have : g.map fix = [] := (congrArg Prod.fst hr).symm
    exact hne (List.map_eq_nil_iff.1 this)
  refine ⟨?_, by rw [hr]⟩
  unfold chk
  rw [hr]
  obtain ⟨b, ms, e, k1, k2, k3⟩ := h2
  simp only [e, List.headD_cons, List.tail_cons]
  rw [if_neg (by rw [hv]; simp [he]), if_neg, if_neg (by omega)]
  rintro (h | h)
  · rw [k1] at h; cases h
  · have : ms.all isMark = true := List.all_eq_true.2 k2
    rw [this] at h; cases h
/-- A string without an error is the encoding of a good list of characters. -/
theorem good_chk {l : List UInt8} (h : chk l = 0) : Good (run l).1 ∧ encL (run l).1 = l ∧ (run l).2 = [] := by
  unfold chk at h
  split at h
  · cases h
  · rename_i h1
    split at h
    · cases h
    · rename_i h2
      split at h
      · cases h
      · rename_i h3
        have hv : Lib.validD l = true := by
          cases e : Lib.validD l
          · exact absurd (.inr e) h1
          · rfl
        have hne : l ≠ [] := fun e => h1 (.inl e)
        obtain ⟨hq, he⟩ := (U8.valid_iff l).1 hv
        refine ⟨?_, he, hq⟩
        cases hr : (run l).1 with
        | nil => rw [hr] at he; exact absurd he.symm hne
        | cons b ms =>
          rw [hr] at h2 h3
          simp only [List.headD_cons, List.tail_cons] at h2 h3
          refine ⟨b, ms, rfl, ?_, ?_, by omega⟩
          · cases e : isBase b
            · exact absurd (.inl e) h2
            · rfl
          · have : ms.all isMark = true := by
              cases e : ms.all isMark
              · exact absurd (.inr e) h2
              · rfl
            exact List.all_eq_true.1 this

/-- The base and the marks of a cluster; 0 and none for what is no cluster. -/
def baseOf (l : List UInt8) : Int := if chk l = 0 then (run l).1.headD 0 else 0
def marksOf (l : List UInt8) : List Int := if chk l = 0 then (run l).1.tail else []
theorem chk_bad {l : List UInt8} (h : l = [] ∨ Lib.validD l = false) : chk l = 3 := by unfold chk; rw [if_pos h]
theorem chk_valid {l : List UInt8} {b : Int} {ms : List Int} (h : ¬ (l = [] ∨ Lib.validD l = false)) (hr : (run l).1 = b :: ms) :
    chk l = if isBase b = false ∨ ms.all isMark = false then 9 else if 3 < ms.length then 5 else 0 := by
  unfold chk
  rw [if_neg h, hr]
  rfl
theorem chk_le (l : List UInt8) : chk l ≤ 9 := by
  unfold chk
  repeat' split
  all_goals omega

/-- The strings of clusters. -/
def str (g : List Int) : ByteArray := runesBytes g
theorem str_data (g : List Int) : (str g).data.toList = encL g := U8.bytes_encL g
theorem same_bytes {a b : ByteArray} (h : a.data.toList = b.data.toList) : a = b := by
  cases a; cases b
  congr
  exact Array.toList_inj.1 h
theorem enc1_fix (r : Int) : enc1 (fix r) = enc1 r := by
  have h := (U8.enc_whole r)
  rw [← h.2, U8.enc_val h.1]
theorem encL_append (a b : List Int) : encL (a ++ b) = encL a ++ encL b := by simp [encL]
theorem encL_fix (g : List Int) : encL (g.map fix) = encL g := by
  induction g with
  | nil => rfl
  | cons r g ih => rw [List.map_cons, U8.encL_cons, U8.encL_cons, enc1_fix, ih]
theorem str_fix (g : List Int) : str (g.map fix) = str g := same_bytes (by rw [str_data, str_data, encL_fix])
theorem str_snoc (g : List Int) (r : Int) : str (g ++ [r]) = str g ++ str [r] := same_bytes (by rw [str_data, ByteArray.data_append, Array.toList_append, str_data, str_data, encL_append])
theorem str_size (g : List Int) : (str g).size ≤ 4 * g.length := by
  have := runesBytes_size_le g
  unfold str
  omega
/-- What is joined. -/
theorem join_data (gs : List (List Int)) : (gs.map str).foldl (fun a b => a ++ b) ⟨#[]⟩ = str gs.flatten := by
  have h : ∀ (gs : List (List Int)) (x : List Int), (gs.map str).foldl (fun a b => a ++ b) (str x) = str (x ++ gs.flatten) := by
    intro gs
    induction gs with
    | nil => intro x; simp
    | cons g gs ih =>
      intro x
      have e : str x ++ str g = str (x ++ g) := same_bytes (by rw [ByteArray.data_append, Array.toList_append, str_data, str_data, str_data, encL_append])
      rw [List.map_cons, List.foldl_cons, e, ih]
      simp
  have := h gs []
  rw [List.nil_append] at this
  exact this

end Cl
end Go.Proofs.YtgmgnlgolhjhmaaDoor

namespace Go.Proofs.YtgmgnlgolhjhmaaDoor
namespace Cl
open U8 (fix encL enc1 run)

def widthC (l : List UInt8) : Int := if chk l = 0 then Cw.wd (baseOf l) else 0
def attE (l : List UInt8) (r : Int) : Nat :=
  if chk l ≠ 0 then chk l else if isMark r = false then 9 else if (marksOf l).length = 3 then 5 else 0
def attS (s : ByteArray) (r : Int) : ByteArray := if attE s.data.toList r = 0 then s ++ str [r] else ⟨#[]⟩

theorem good_parts {g : List Int} (h : Good g) : chk (encL g) = 0 ∧ baseOf (encL g) = fix (g.headD 0) ∧ marksOf (encL g) = (g.map fix).tail ∧ widthC (encL g) = widthOf g := by
  obtain ⟨h1, h2⟩ := chk_good h
  have e : baseOf (encL g) = fix (g.headD 0) := by
    unfold baseOf
    rw [if_pos h1, h2]
    obtain ⟨b, ms, rfl, _⟩ := h
    rfl
  refine ⟨h1, e, ?_, ?_⟩
  · unfold marksOf
    rw [if_pos h1, h2]
  · unfold widthC widthOf
    rw [if_pos h1, e]
/-- A cluster is its base and its marks. -/
theorem parts_whole {l : List UInt8} (h : chk l = 0) : (run l).1 = baseOf l :: marksOf l := by
  obtain ⟨hg, _, _⟩ := good_chk h
  unfold baseOf marksOf
  rw [if_pos h, if_pos h]
  obtain ⟨b, ms, e, _⟩ := hg
  rw [e]
  rfl
theorem widthC_bounds (l : List UInt8) : -1 ≤ widthC l ∧ widthC l ≤ 2 := by
  unfold widthC
  split
  · rcases Cw.wd_cases (baseOf l) with h | h | h | h <;> omega
  · omega
theorem chk_cases (l : List UInt8) : chk l = 0 ∨ chk l = 3 ∨ chk l = 5 ∨ chk l = 9 := by
  unfold chk
  repeat' split
  all_goals simp
theorem baseOf_range (l : List UInt8) : -2147483648 ≤ baseOf l ∧ baseOf l ≤ 2147483647 := by
  by_cases h : chk l = 0
  · have hm : baseOf l ∈ (run l).1 := by rw [parts_whole h]; exact .head _
    exact U8.run_range l _ hm
  · unfold baseOf
    rw [if_neg h]
    omega
theorem marksOf_len (l : List UInt8) : (marksOf l).length ≤ 3 := by
  by_cases h : chk l = 0
  · obtain ⟨hg, _, _⟩ := good_chk h
    have := hg.len
    rw [parts_whole h] at this
    simp at this
    omega
  · unfold marksOf
    rw [if_neg h]
    simp

end Cl
end Go.Proofs.YtgmgnlgolhjhmaaDoor
