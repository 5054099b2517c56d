/-
  The plain mathematics of layer 6: what a parser does with a byte, with a list of bytes, and that it stays proper. No program in this text.
-/
import Derived.Test.YtihfjkjbeeoanaaDoorUMath
import Derived.Test.YtihfjkjbeeoanaaDoorCpMath
namespace Go.Proofs.YtihfjkjbeeoanaaDoor.Vt

/-- A parser: the state, the pending bytes, the buffer. -/
structure P where
  st : Int
  pe : List UInt8
  bu : List UInt8
/-- An event: kind, rune, code, private marker, intermediate bytes, parameters, text. -/
structure E where
  k : Int
  r : Int
  c : UInt8
  p : UInt8
  i : List UInt8
  ps : List Int
  t : List UInt8

theorem P.eq {a b : P} (h1 : a.st = b.st) (h2 : a.pe = b.pe) (h3 : a.bu = b.bu) : a = b := by cases a; cases b; simp_all
instance : DecidableEq P := fun a b => if h : a.st = b.st ∧ a.pe = b.pe ∧ a.bu = b.bu then .isTrue (P.eq h.1 h.2.1 h.2.2) else .isFalse fun e => h (e ▸ ⟨rfl, rfl, rfl⟩)

def zero : P := ⟨0, [], []⟩
def inEsc : P := ⟨1, [], []⟩
def ctl (b : UInt8) : E := ⟨2, 0, b, 0, [], [], []⟩
def prt (r : Int) : E := ⟨1, r, 0, 0, [], [], []⟩
def isCtl (b : UInt8) : Bool := decide (b.toNat < 32) || decide (b.toNat = 127)
def printed (r : Int) : Bool := decide (0 ≤ r ∧ r ≤ 1114111 ∧ ¬ (55296 ≤ r ∧ r ≤ 57343)) && (decide (32 ≤ r) && (decide (r < 127) || decide (159 < r)))
def prints (rs : List Int) : List E := (rs.filter printed).map prt

/-- A control character or a delete. -/
def control (p : P) (b : UInt8) : P × List E :=
  if b.toNat = 27 then (inEsc, []) else if b.toNat = 24 ∨ b.toNat = 26 then (zero, []) else if b.toNat = 127 then (p, []) else (p, [ctl b])
def ground (pe : List UInt8) (b : UInt8) : P × List E :=
  if isCtl b then ((control zero b).1, prints (U8.ended pe) ++ (control zero b).2)
  else (⟨0, (U8.run (pe ++ [b])).2, []⟩, prints (U8.run (pe ++ [b])).1)
def keep (p : P) (b : UInt8) (n : Nat) : P := if p.bu.length < n then ⟨p.st, p.pe, p.bu ++ [b]⟩ else p
def esc (p : P) (b : UInt8) : P × List E :=
  if isCtl b then control p b
  else if b.toNat ≤ 47 then (keep p b 3, [])
  else if p.bu = [] ∧ b.toNat = 91 then (⟨2, [], []⟩, [])
  else if p.bu = [] ∧ b.toNat = 93 then (⟨3, [], []⟩, [])
  else if 2 < p.bu.length then (zero, [])
  else (zero, [⟨3, 0, b, 0, p.bu, [], []⟩])
def sqev (l : List UInt8) (b : UInt8) : List E :=
  if (Cp.parse l).2.2.2 = 0 then [⟨4, 0, b, (Cp.parse l).1, (Cp.parse l).2.2.1, (Cp.parse l).2.1, []⟩] else []
def sq (p : P) (b : UInt8) : P × List E :=
  if isCtl b then control p b
  else if b.toNat ≤ 63 then (keep p b 257, [])
  else if 256 < p.bu.length then (zero, [])
  else (zero, sqev p.bu b)
def done (p : P) : P × List E := (zero, [⟨5, 0, 0, 0, [], [], p.bu⟩])
def cmd (p : P) (b : UInt8) : P × List E :=
  if b.toNat = 7 then done p
  else if b.toNat = 27 then (⟨4, [], p.bu⟩, [])
  else if b.toNat = 24 ∨ b.toNat = 26 then (zero, [])
  else if b.toNat < 32 then (p, [])
  else (keep p b 256, [])
/-- Reading a byte. -/
def rd (p : P) (b : UInt8) : P × List E :=
  if p.st = 4 then (if b.toNat = 92 then done p else if 128 ≤ b.toNat then ground [] b else esc inEsc b)
  else if p.st = 1 then (if 128 ≤ b.toNat then ground [] b else esc p b)
  else if p.st = 2 then (if 128 ≤ b.toNat then ground [] b else sq p b)
  else if p.st = 3 then cmd p b
  else ground p.pe b

def within (lo hi : Nat) (l : List UInt8) : Bool := l.all fun b => decide (lo ≤ b.toNat) && decide (b.toNat ≤ hi)
/-- A proper parser. -/
def proper (p : P) : Bool :=
  if p.st = 0 then p.bu.isEmpty && ((U8.run p.pe).1.isEmpty && decide ((U8.run p.pe).2 = p.pe))
  else p.pe.isEmpty &&
    (if p.st = 1 then decide (p.bu.length ≤ 3) && within 32 47 p.bu
     else if p.st = 2 then decide (p.bu.length ≤ 257) && within 32 63 p.bu
     else if p.st = 3 ∨ p.st = 4 then decide (p.bu.length ≤ 256) && within 32 255 p.bu
     else false)
def norm (p : P) : P := if proper p then p else zero
def idle (p : P) : Bool := decide (p = zero) || !proper p
def add (s : P × List E) (b : UInt8) : P × List E := ((rd s.1 b).1, s.2 ++ (rd s.1 b).2)
def from_ (s : P × List E) (l : List UInt8) : P × List E := l.foldl add s
def feed (p : P) (l : List UInt8) : P × List E := from_ (norm p, []) l

theorem from_nil (s : P × List E) : from_ s [] = s := rfl
theorem from_cons (s : P × List E) (b : UInt8) (l : List UInt8) : from_ s (b :: l) = from_ (add s b) l := rfl
theorem from_append (s : P × List E) (a b : List UInt8) : from_ s (a ++ b) = from_ (from_ s a) b := List.foldl_append
theorem from_snoc (s : P × List E) (a : List UInt8) (b : UInt8) : from_ s (a ++ [b]) = add (from_ s a) b := from_append s a [b]
theorem add_shift (p : P) (es fs : List E) (b : UInt8) : add (p, es ++ fs) b = ((add (p, fs) b).1, es ++ (add (p, fs) b).2) := by simp [add]
theorem from_shift (l : List UInt8) : ∀ (p : P) (es fs : List E), from_ (p, es ++ fs) l = ((from_ (p, fs) l).1, es ++ (from_ (p, fs) l).2) := by
  induction l with
  | nil => intro p es fs; rfl
  | cons b l ih =>
    intro p es fs
    rw [from_cons, from_cons, add_shift]
    obtain ⟨q, gs⟩ := add (p, fs) b
    exact ih q es gs
theorem from_out (p : P) (es : List E) (l : List UInt8) : from_ (p, es) l = ((from_ (p, []) l).1, es ++ (from_ (p, []) l).2) := by
  have := from_shift l p es []
  rwa [List.append_nil] at this

/-! ### Proper parsers -/

theorem proper_zero : proper zero = true := by decide
theorem proper_esc : proper inEsc = true := by decide
theorem norm_proper {p : P} (h : proper p = true) : norm p = p := by unfold norm; rw [if_pos h]
theorem proper_norm (p : P) : proper (norm p) = true := by
  unfold norm
  split
  · assumption
  · exact proper_zero
theorem proper_ground {pe : List UInt8} (h : U8.Opened pe) : proper ⟨0, pe, []⟩ = true := by
  unfold proper
  rw [if_pos rfl, U8.run_opened h]
  simp
/-- The pending bytes of a proper parser in the ground. -/
theorem proper_pending {p : P} (h : proper p = true) (h0 : p.st = 0) : U8.Opened p.pe ∧ p.bu = [] := by
  unfold proper at h
  rw [if_pos h0] at h
  simp at h
  refine ⟨?_, h.1⟩
  rw [← h.2.2]
  exact U8.opened_run _
theorem within_nil (lo hi : Nat) : within lo hi [] = true := rfl
theorem within_snoc {lo hi : Nat} {l : List UInt8} {b : UInt8} (h : within lo hi l = true) (h1 : lo ≤ b.toNat) (h2 : b.toNat ≤ hi) : within lo hi (l ++ [b]) = true := by
  unfold within at h ⊢
  rw [List.all_append, h]
  simp [h1, h2]
theorem proper_1 {p : P} (h1 : p.st = 1) : proper p = (p.pe.isEmpty && (decide (p.bu.length ≤ 3) && within 32 47 p.bu)) := by
  unfold proper
  rw [if_neg (by omega), if_pos h1]
theorem proper_2 {p : P} (h1 : p.st = 2) : proper p = (p.pe.isEmpty && (decide (p.bu.length ≤ 257) && within 32 63 p.bu)) := by
  unfold proper
  rw [if_neg (by omega), if_neg (by omega), if_pos h1]
theorem proper_34 {p : P} (h1 : p.st = 3 ∨ p.st = 4) : proper p = (p.pe.isEmpty && (decide (p.bu.length ≤ 256) && within 32 255 p.bu)) := by
  unfold proper
  rw [if_neg (by omega), if_neg (by omega), if_neg (by omega), if_pos h1]
theorem proper_st {p : P} (h : proper p = true) : p.st = 0 ∨ p.st = 1 ∨ p.st = 2 ∨ p.st = 3 ∨ p.st = 4 := by
  rcases Decidable.em (p.st = 0) with h0 | h0
  · exact .inl h0
  rcases Decidable.em (p.st = 1) with h1 | h1
  · exact .inr (.inl h1)
  rcases Decidable.em (p.st = 2) with h2 | h2
  · exact .inr (.inr (.inl h2))
  rcases Decidable.em (p.st = 3 ∨ p.st = 4) with h3 | h3
  · exact .inr (.inr (.inr h3))
  unfold proper at h
  rw [if_neg h0, if_neg h1, if_neg h2, if_neg h3] at h
  simp at h
theorem control_proper {p : P} (h : proper p = true) (b : UInt8) : proper (control p b).1 = true := by
  unfold control
  split
  · exact proper_esc
  · split
    · exact proper_zero
    · split
      · exact h
      · exact h
theorem ground_proper {pe : List UInt8} (b : UInt8) : proper (ground pe b).1 = true := by
  unfold ground
  split
  · exact control_proper proper_zero b
  · exact proper_ground (U8.opened_run _)
theorem keep_proper {p : P} {b : UInt8} {n lo hi : Nat} (hp : ∀ q : P, q.st = p.st → proper q = (q.pe.isEmpty && (decide (q.bu.length ≤ n) && within lo hi q.bu))) (h : proper p = true) (h1 : lo ≤ b.toNat) (h2 : b.toNat ≤ hi) : proper (keep p b n) = true := by
  unfold keep
  split
  · rename_i hl
    rw [hp p rfl] at h
    rw [hp ⟨p.st, p.pe, p.bu ++ [b]⟩ rfl]
    simp only [Bool.and_eq_true, decide_eq_true_eq] at h ⊢
    refine ⟨h.1, ?_, within_snoc h.2.2 h1 h2⟩
    simp; omega
  · exact h
theorem isCtl_false {b : UInt8} (h : isCtl b = false) : 32 ≤ b.toNat ∧ b.toNat ≠ 127 := by
  unfold isCtl at h
  simp at h
  omega
theorem isCtl_true {b : UInt8} (h : isCtl b = true) : b.toNat < 32 ∨ b.toNat = 127 := by
  unfold isCtl at h
  simp at h
  omega
theorem esc_proper {p : P} (h1 : p.st = 1) (h : proper p = true) (b : UInt8) : proper (esc p b).1 = true := by
  unfold esc
  split
  · exact control_proper h b
  · rename_i hc
    rw [Bool.not_eq_true] at hc
    have hb := isCtl_false hc
    split
    · exact keep_proper (fun q hq => proper_1 (hq.trans h1)) h hb.1 (by assumption)
    · split
      · decide
      · split
        · decide
        · split
          · exact proper_zero
          · exact proper_zero
theorem sq_proper {p : P} (h1 : p.st = 2) (h : proper p = true) (b : UInt8) : proper (sq p b).1 = true := by
  unfold sq
  split
  · exact control_proper h b
  · rename_i hc
    rw [Bool.not_eq_true] at hc
    have hb := isCtl_false hc
    split
    · exact keep_proper (fun q hq => proper_2 (hq.trans h1)) h hb.1 (by assumption)
    · split
      · exact proper_zero
      · exact proper_zero
theorem cmd_proper {p : P} (h1 : p.st = 3) (h : proper p = true) (b : UInt8) : proper (cmd p b).1 = true := by
  unfold cmd
  split
  · exact proper_zero
  · split
    · rw [proper_34 (.inl h1)] at h
      rw [proper_34 (.inr rfl)]
      simp only [Bool.and_eq_true] at h ⊢
      exact ⟨rfl, h.2⟩
    · split
      · exact proper_zero
      · split
        · exact h
        · have := b.toNat_lt
          exact keep_proper (fun q hq => proper_34 (.inl (hq.trans h1))) h (by omega) (by omega)
theorem rd_proper {p : P} (h : proper p = true) (b : UInt8) : proper (rd p b).1 = true := by
  unfold rd
  split
  · split
    · exact proper_zero
    · split
      · exact ground_proper b
      · exact esc_proper rfl proper_esc b
  · split
    · split
      · exact ground_proper b
      · exact esc_proper (by assumption) h b
    · split
      · split
        · exact ground_proper b
        · exact sq_proper (by assumption) h b
      · split
        · exact cmd_proper (by assumption) h b
        · exact ground_proper b
theorem from_proper (l : List UInt8) : ∀ s : P × List E, proper s.1 = true → proper (from_ s l).1 = true := by
  induction l with
  | nil => intro s h; exact h
  | cons b l ih => intro s h; exact ih _ (rd_proper h b)
theorem feed_proper (p : P) (l : List UInt8) : proper (feed p l).1 = true := from_proper l _ (proper_norm p)

/-- A stream in two chunks. -/
theorem feed_append (p : P) (a b : List UInt8) : feed p (a ++ b) = ((feed (feed p a).1 b).1, (feed p a).2 ++ (feed (feed p a).1 b).2) := by
  have e : feed (feed p a).1 b = from_ ((feed p a).1, []) b := by rw [feed, norm_proper (feed_proper p a)]
  rw [e]
  unfold feed
  rw [from_append]
  obtain ⟨q, es⟩ := from_ (norm p, []) a
  exact from_out q es b
theorem feed_nil (p : P) : feed p [] = (norm p, []) := rfl

/-! ### How many events, how long the texts -/

theorem prints_len (rs : List Int) : (prints rs).length ≤ rs.length := by
  unfold prints
  rw [List.length_map]
  exact List.length_filter_le _ _
theorem control_len (p : P) (b : UInt8) : (control p b).2.length ≤ 1 := by
  unfold control
  repeat' split
  all_goals simp
theorem ended_len (pe : List UInt8) : (U8.ended pe).length ≤ pe.length + 1 := by
  unfold U8.ended
  have := U8.run_out_le pe
  split
  · omega
  · simp; omega
theorem ground_len {pe : List UInt8} (h : pe.length ≤ 3) (b : UInt8) : (ground pe b).2.length ≤ 8 := by
  unfold ground
  split
  · have h1 := control_len zero b
    have h2 := prints_len (U8.ended pe)
    have h3 := ended_len pe
    rw [List.length_append]
    omega
  · have h1 := prints_len (U8.run (pe ++ [b])).1
    have h2 := U8.run_out_le (pe ++ [b])
    have h3 : (pe ++ [b]).length = pe.length + 1 := by simp
    show (prints (U8.run (pe ++ [b])).1).length ≤ 8
    omega
theorem rd_len {p : P} (h : proper p = true) (b : UInt8) : (rd p b).2.length ≤ 8 := by
  have he : ∀ q : P, (esc q b).2.length ≤ 1 := fun q => by
    unfold esc
    have := control_len q b
    repeat' split
    all_goals first | assumption | simp
  have hs : ∀ q : P, (sq q b).2.length ≤ 1 := fun q => by
    unfold sq sqev
    have := control_len q b
    repeat' split
    all_goals first | assumption | simp
  have hc : ∀ q : P, (cmd q b).2.length ≤ 1 := fun q => by
    unfold cmd done
    repeat' split
    all_goals simp
  have h1 := he p
  have h2 := he inEsc
  have h3 := hs p
  have h4 := hc p
  have h5 : (done p).2.length ≤ 1 := by simp [done]
  have h6 := ground_len (pe := []) (by simp) b
  have h7 : p.st ≠ 4 → p.st ≠ 1 → p.st ≠ 2 → p.st ≠ 3 → (ground p.pe b).2.length ≤ 8 := fun a1 a2 a3 a4 => by
    refine ground_len ?_ b
    rcases proper_st h with h0 | h0 | h0 | h0 | h0
    · exact U8.opened_length (proper_pending h h0).1
    · exact absurd h0 a2
    · exact absurd h0 a3
    · exact absurd h0 a4
    · exact absurd h0 a1
  unfold rd
  repeat' split
  all_goals first | omega | (rename_i a1 a2 a3 a4; exact h7 a1 a2 a3 a4)
theorem from_len (l : List UInt8) : ∀ s : P × List E, proper s.1 = true → (from_ s l).2.length ≤ s.2.length + 8 * l.length := by
  induction l with
  | nil => intro s _; simp [from_nil]
  | cons b l ih =>
    intro s h
    have h1 := ih (add s b) (rd_proper h b)
    have h2 := rd_len h b
    rw [from_cons]
    simp only [add, List.length_append, List.length_cons] at h1 ⊢
    omega
theorem feed_len (p : P) (l : List UInt8) : (feed p l).2.length ≤ 8 * l.length := by
  have := from_len l (norm p, []) (proper_norm p)
  unfold feed
  simpa using this

/-! ### A byte that cancels -/

theorem opened_ended {pe : List UInt8} (h : U8.Opened pe) : prints (U8.ended pe) = if pe = [] then [] else [prt 65533] := by
  rw [U8.ended_opened h]
  split
  · rfl
  · rfl
theorem rd_cancel {p : P} (h : proper p = true) (b : UInt8) (hb : b.toNat = 24) : (rd p b).1 = zero ∧ ((rd p b).2 = [] ∨ (rd p b).2 = [prt 65533]) := by
  have hc : isCtl b = true := by unfold isCtl; rw [hb]; decide
  have h1 : ∀ q : P, control q b = (zero, []) := fun q => by
    unfold control
    rw [if_neg (by omega), if_pos (.inl hb)]
  have h2 : ∀ q : P, esc q b = (zero, []) := fun q => by unfold esc; rw [if_pos hc, h1]
  have h3 : ∀ q : P, sq q b = (zero, []) := fun q => by unfold sq; rw [if_pos hc, h1]
  have h4 : cmd p b = (zero, []) := by
    unfold cmd
    rw [if_neg (by omega), if_neg (by omega), if_pos (.inl hb)]
  have h5 : ∀ pe, ground pe b = (zero, prints (U8.ended pe)) := fun pe => by
    unfold ground
    rw [if_pos hc, h1]
    simp
  unfold rd
  rcases proper_st h with h0 | h0 | h0 | h0 | h0
  · rw [if_neg (by omega), if_neg (by omega), if_neg (by omega), if_neg (by omega), h5, opened_ended (proper_pending h h0).1]
    refine ⟨rfl, ?_⟩
    split
    · exact .inl rfl
    · exact .inr rfl
  · rw [if_neg (by omega), if_pos h0, if_neg (by omega), h2]
    exact ⟨rfl, .inl rfl⟩
  · rw [if_neg (by omega), if_neg (by omega), if_pos h0, if_neg (by omega), h3]
    exact ⟨rfl, .inl rfl⟩
  · rw [if_neg (by omega), if_neg (by omega), if_neg (by omega), if_pos h0, h4]
    exact ⟨rfl, .inl rfl⟩
  · rw [if_pos h0, if_neg (by omega), if_neg (by omega), h2]
    exact ⟨rfl, .inl rfl⟩
theorem feed_one {p : P} (h : proper p = true) (b : UInt8) : feed p [b] = rd p b := by
  unfold feed
  rw [norm_proper h, from_cons, from_nil]
  simp [add]

end Go.Proofs.YtihfjkjbeeoanaaDoor.Vt
