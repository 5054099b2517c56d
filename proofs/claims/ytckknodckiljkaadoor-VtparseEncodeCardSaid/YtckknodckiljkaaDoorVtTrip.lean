/-
  The plain mathematics of layer 6: what Encode returns, and that it is read as the event. No program in this text.
-/
import Derived.Test.YtckknodckiljkaaDoorVtOk
import Derived.Test.YtckknodckiljkaaDoorEncTwo
namespace Go.Proofs.YtckknodckiljkaaDoor.Vt

/-- What Encode returns for a valid event. -/
def enc (e : E) : List UInt8 :=
  if e.k = 1 then U8.enc1 e.r else if e.k = 2 then [e.c] else if e.k = 3 then 27 :: (e.i ++ [e.c])
  else if e.k = 4 then 27 :: 91 :: ((Cp.fmt e.p e.ps e.i).1 ++ [e.c]) else 27 :: 93 :: (e.t ++ [7])
def encode (e : E) : List UInt8 × Int := if chk e = 0 then (enc e, 0) else ([], chk e)

/-! ### Characters -/

/-- Bytes that are no control characters, read in the ground. -/
theorem from_ground (l : List UInt8) : ∀ (pe : List UInt8) (es : List E), U8.Opened pe → (∀ b ∈ l, isCtl b = false) → from_ (⟨0, pe, []⟩, es) l = (⟨0, (U8.run (pe ++ l)).2, []⟩, es ++ prints (U8.run (pe ++ l)).1) := by
  induction l with
  | nil =>
    intro pe es hp _
    rw [from_nil, List.append_nil, U8.run_opened hp]
    simp [prints]
  | cons b l ih =>
    intro pe es hp hb
    rw [from_cons]
    have e : add (⟨0, pe, []⟩, es) b = (⟨0, (U8.run (pe ++ [b])).2, []⟩, es ++ prints (U8.run (pe ++ [b])).1) := by
      have h1 : rd ⟨0, pe, []⟩ b = ground pe b := rfl
      unfold add
      simp only [h1]
      unfold ground
      rw [if_neg (by rw [hb b (by simp)]; decide)]
    rw [e, ih _ _ (U8.opened_run _) (fun c hc => hb c (by simp [hc]))]
    have hs := U8.run_split (pe ++ [b]) l
    have ha : pe ++ [b] ++ l = pe ++ b :: l := by simp
    rw [ha] at hs
    rw [hs]
    simp [prints]
theorem enc1_bytes (r : Int) (h : printed r = true) : ∀ b ∈ U8.enc1 r, isCtl b = false := by
  unfold printed at h
  simp only [Bool.and_eq_true, Bool.or_eq_true, decide_eq_true_eq] at h
  obtain ⟨c, hc, h1, h2, h3⟩ := U8.enc_forms r
  have hf : U8.fix r = r := by unfold U8.fix; rw [if_neg (by omega)]
  rw [hf] at hc
  intro b hb
  have hge : ∀ n : Nat, (32 ≤ n ∧ n < 127 ∨ 128 ≤ n) → n < 256 → b = UInt8.ofNat n → isCtl b = false := fun n hn hl e => by
    have := U8.toNat_of n hl
    unfold isCtl
    rw [e, this]
    simp
    omega
  rw [h3] at hb
  split at hb
  · simp only [List.mem_cons, List.not_mem_nil, or_false] at hb
    exact hge _ (by omega) (by omega) hb
  · split at hb
    · simp only [List.mem_cons, List.not_mem_nil, or_false] at hb
      rcases hb with hb | hb
      · exact hge _ (by omega) (by omega) hb
      · exact hge _ (by omega) (by omega) hb
    · split at hb
      · simp only [List.mem_cons, List.not_mem_nil, or_false] at hb
        rcases hb with hb | hb | hb
        · exact hge _ (by omega) (by omega) hb
        · exact hge _ (by omega) (by omega) hb
        · exact hge _ (by omega) (by omega) hb
      · simp only [List.mem_cons, List.not_mem_nil, or_false] at hb
        rcases hb with hb | hb | hb | hb
        · exact hge _ (by omega) (by omega) hb
        · exact hge _ (by omega) (by omega) hb
        · exact hge _ (by omega) (by omega) hb
        · exact hge _ (by omega) (by omega) hb
theorem trip_1 {e : E} (h : chk e = 0) (hk : e.k = 1) (es : List E) : from_ (zero, es) (enc e) = (zero, es ++ [e]) := by
  obtain ⟨_, hf, ho⟩ := chk_of h
  have hp : printed e.r = true := by unfold fits at hf; rw [if_pos hk] at hf; exact hf
  have he : enc e = U8.enc1 e.r := by unfold enc; rw [if_pos hk]
  have h1 := from_ground (U8.enc1 e.r) [] es (.inl rfl) (enc1_bytes e.r hp)
  rw [List.nil_append] at h1
  have h2 := U8.run_encL [e.r]
  have h3 : U8.encL [e.r] = U8.enc1 e.r := by simp [U8.encL]
  have hfx : U8.fix e.r = e.r := by
    unfold printed at hp
    simp only [Bool.and_eq_true, Bool.or_eq_true, decide_eq_true_eq] at hp
    unfold U8.fix
    rw [if_neg (by omega)]
  rw [h3] at h2
  rw [h2] at h1
  rw [he]
  refine h1.trans ?_
  have h4 : prints ([e.r].map U8.fix) = [e] := by
    rw [List.map_cons, List.map_nil, hfx]
    unfold prints
    rw [List.filter_cons, if_pos hp]
    have : only e = prt e.r := by unfold only; rw [if_pos hk]; rfl
    rw [List.filter_nil, List.map_cons, List.map_nil, ← this, ← ho]
  rw [h4]
  rfl

/-! ### Control characters -/

theorem reported_facts {b : UInt8} (h : reported b = true) : b.toNat < 32 ∧ b.toNat ≠ 24 ∧ b.toNat ≠ 26 ∧ b.toNat ≠ 27 := by
  unfold reported at h
  simpa using h
theorem control_reported {b : UInt8} (h : reported b = true) (p : P) : control p b = (p, [ctl b]) := by
  have := reported_facts h
  unfold control
  rw [if_neg (by omega), if_neg (by omega), if_neg (by omega)]
theorem isCtl_reported {b : UInt8} (h : reported b = true) : isCtl b = true := by
  have := reported_facts h
  unfold isCtl
  simp
  omega
theorem trip_2 {e : E} (h : chk e = 0) (hk : e.k = 2) (es : List E) : from_ (zero, es) (enc e) = (zero, es ++ [e]) := by
  obtain ⟨_, hf, ho⟩ := chk_of h
  have hp : reported e.c = true := by unfold fits at hf; rw [if_neg (by omega), if_pos hk] at hf; exact hf
  have he : enc e = [e.c] := by unfold enc; rw [if_neg (by omega), if_pos hk]
  have ho2 : e = ctl e.c := by
    have : only e = ctl e.c := by unfold only; rw [if_neg (by omega), if_pos hk]; rfl
    rw [← this]; exact ho
  rw [he, from_cons, from_nil]
  have h1 : rd zero e.c = (zero, [ctl e.c]) := by
    show ground [] e.c = _
    unfold ground
    rw [if_pos (isCtl_reported hp), control_reported hp]
    rfl
  simp [add, h1]
  exact ho2.symm

/-! ### Sequences -/

/-- Bytes that are kept, in the states Escape, Sequence and Command. -/
theorem from_keep (st : Int) (n lo hi : Nat) (hrd : ∀ (bu : List UInt8) (b : UInt8), lo ≤ b.toNat → b.toNat ≤ hi → rd ⟨st, [], bu⟩ b = (keep ⟨st, [], bu⟩ b n, [])) (l : List UInt8) : ∀ (bu : List UInt8) (es : List E), within lo hi l = true → bu.length + l.length ≤ n → from_ (⟨st, [], bu⟩, es) l = (⟨st, [], bu ++ l⟩, es) := by
  induction l with
  | nil => intro bu es _ _; rw [from_nil, List.append_nil]
  | cons b l ih =>
    intro bu es hw hl
    unfold within at hw
    rw [List.all_cons, Bool.and_eq_true] at hw
    have hb := hw.1
    simp only [Bool.and_eq_true, decide_eq_true_eq] at hb
    rw [List.length_cons] at hl
    have e : add (⟨st, [], bu⟩, es) b = (⟨st, [], bu ++ [b]⟩, es) := by
      simp only [add, hrd bu b hb.1 hb.2]
      unfold keep
      rw [if_pos (by simp only; omega)]
      simp
    rw [from_cons, e, ih _ _ hw.2 (by simp; omega)]
    simp
theorem not_ctl {b : UInt8} (h1 : 32 ≤ b.toNat) (h2 : b.toNat ≠ 127) : isCtl b = false := by
  unfold isCtl; simp; omega
theorem rd_esc_keep (bu : List UInt8) (b : UInt8) (h1 : 32 ≤ b.toNat) (h2 : b.toNat ≤ 47) : rd ⟨1, [], bu⟩ b = (keep ⟨1, [], bu⟩ b 3, []) := by
  have e : rd ⟨1, [], bu⟩ b = if 128 ≤ b.toNat then ground [] b else esc ⟨1, [], bu⟩ b := rfl
  rw [e, if_neg (by omega)]
  unfold esc
  rw [if_neg (by rw [not_ctl h1 (by omega)]; decide), if_pos h2]
theorem rd_sq_keep (bu : List UInt8) (b : UInt8) (h1 : 32 ≤ b.toNat) (h2 : b.toNat ≤ 63) : rd ⟨2, [], bu⟩ b = (keep ⟨2, [], bu⟩ b 257, []) := by
  have e : rd ⟨2, [], bu⟩ b = if 128 ≤ b.toNat then ground [] b else sq ⟨2, [], bu⟩ b := rfl
  rw [e, if_neg (by omega)]
  unfold sq
  rw [if_neg (by rw [not_ctl h1 (by omega)]; decide), if_pos h2]
theorem rd_cmd_keep (bu : List UInt8) (b : UInt8) (h1 : 32 ≤ b.toNat) (_h2 : b.toNat ≤ 255) : rd ⟨3, [], bu⟩ b = (keep ⟨3, [], bu⟩ b 256, []) := by
  have e : rd ⟨3, [], bu⟩ b = cmd ⟨3, [], bu⟩ b := rfl
  rw [e]
  unfold cmd
  rw [if_neg (by omega), if_neg (by omega), if_neg (by omega), if_neg (by omega)]
theorem add_27 (es : List E) : add (zero, es) 27 = (inEsc, es) := by
  have h : rd zero 27 = (inEsc, []) := rfl
  simp [add, h]
theorem add_91 (es : List E) : add (inEsc, es) 91 = (⟨2, [], []⟩, es) := by
  have h : rd inEsc 91 = (⟨2, [], []⟩, []) := rfl
  simp [add, h]
theorem add_93 (es : List E) : add (inEsc, es) 93 = (⟨3, [], []⟩, es) := by
  have h : rd inEsc 93 = (⟨3, [], []⟩, []) := rfl
  simp [add, h]
/-- What an escape sequence consists of. -/
theorem esc_facts {e : E} (h : chk e = 0) (hk : e.k = 3) : enc e = 27 :: (e.i ++ [e.c]) ∧ escOk e.i e.c = true ∧ e = ⟨3, 0, e.c, 0, e.i, [], []⟩ := by
  obtain ⟨_, hf, ho⟩ := chk_of h
  refine ⟨by unfold enc; rw [if_neg (by omega), if_neg (by omega), if_pos hk], ?_, ?_⟩
  · unfold fits at hf; rw [if_neg (by omega), if_neg (by omega), if_pos hk] at hf; exact hf
  · have : only e = ⟨3, 0, e.c, 0, e.i, [], []⟩ := by unfold only; rw [if_neg (by omega), if_neg (by omega), if_pos hk]
    rw [← this]; exact ho
theorem escOk_facts {i : List UInt8} {c : UInt8} (h : escOk i c = true) : i.length ≤ 2 ∧ within 32 47 i = true ∧ 47 < c.toNat ∧ c.toNat ≤ 126 ∧ ¬ (i = [] ∧ c.toNat = 91) ∧ ¬ (i = [] ∧ c.toNat = 93) := by
  unfold escOk at h
  simp only [Bool.and_eq_true, decide_eq_true_eq, Bool.not_eq_true'] at h
  refine ⟨h.2.1, h.2.2.1, h.2.2.2.1, h.2.2.2.2, ?_, ?_⟩
  · rintro ⟨rfl, hc⟩
    have := h.1
    simp [hc] at this
  · rintro ⟨rfl, hc⟩
    have := h.1
    simp [hc] at this
theorem rd_esc_end {i : List UInt8} {c : UInt8} (h : escOk i c = true) : rd ⟨1, [], i⟩ c = (zero, [⟨3, 0, c, 0, i, [], []⟩]) := by
  obtain ⟨h1, h2, h3, h4, h5, h6⟩ := escOk_facts h
  have e : rd ⟨1, [], i⟩ c = if 128 ≤ c.toNat then ground [] c else esc ⟨1, [], i⟩ c := rfl
  rw [e, if_neg (by omega)]
  unfold esc
  rw [if_neg (by rw [not_ctl (by omega) (by omega)]; decide), if_neg (by omega), if_neg h5, if_neg h6, if_neg (by simp only; omega)]
theorem itoa_short (k : Nat) : ∀ n : Nat, n < 10 ^ (k + 1) → (Lib.itoa (n : Int)).length ≤ k + 1 := by
  induction k with
  | zero => intro n h; rw [Cp.itoa_digit n (by omega)]; simp
  | succ k ih =>
    intro n h
    by_cases h1 : n < 10
    · rw [Cp.itoa_digit n h1]; simp
    · have e := Cp.itoa_more (n / 10) (n % 10) (by omega) (by omega)
      have e2 : 10 * (n / 10) + n % 10 = n := by omega
      rw [e2] at e
      rw [e, List.length_append]
      have h2 : n / 10 < 10 ^ (k + 1) := by
        rw [Nat.div_lt_iff_lt_mul (by omega), ← Nat.pow_succ]
        exact h
      have := ih (n / 10) h2
      simp only [List.length_cons, List.length_nil]
      omega
theorem num_short (z : Int) (h0 : -1 ≤ z) (h1 : z ≤ 9999) : (Cp.num z).length ≤ 4 := by
  unfold Cp.num
  split
  · simp
  · obtain ⟨n, rfl⟩ : ∃ n : Nat, z = n := ⟨z.toNat, by omega⟩
    exact itoa_short 3 n (by have : (10 : Nat) ^ (3 + 1) = 10000 := rfl; omega)
theorem bd_short (f : Bool) (ps : List Int) (h : ∀ z ∈ ps, -1 ≤ z ∧ z ≤ 9999) : (Cp.bd f ps).length ≤ 5 * ps.length := by
  induction ps generalizing f with
  | nil => simp [Cp.bd]
  | cons n r ih =>
    have h1 := num_short n (h n (by simp)).1 (h n (by simp)).2
    have h2 := ih true (fun z hz => h z (by simp [hz]))
    have h3 : (if f = true then ([59] : List UInt8) else []).length ≤ 1 := by split <;> simp
    rw [Cp.bd, List.length_append, List.length_append, List.length_cons]
    omega
theorem within_of {lo hi : Nat} {l : List UInt8} {q : UInt8 → Bool} (h : l.all q = true) (hq : ∀ b : UInt8, q b = true → lo ≤ b.toNat ∧ b.toNat ≤ hi) : within lo hi l = true := by
  unfold within
  rw [List.all_eq_true] at h ⊢
  intro b hb
  have := hq b (h b hb)
  simp [this]
theorem within_app {lo hi : Nat} {a b : List UInt8} (h1 : within lo hi a = true) (h2 : within lo hi b = true) : within lo hi (a ++ b) = true := by
  unfold within at *
  rw [List.all_append, h1, h2]; rfl
/-- What a control sequence consists of. -/
theorem seq_facts {e : E} (h : chk e = 0) (hk : e.k = 4) : ∃ l, enc e = 27 :: 91 :: (l ++ [e.c]) ∧ within 32 63 l = true ∧ l.length ≤ 200 ∧ Cp.parse l = (e.p, e.ps, e.i, 0) ∧ 63 < e.c.toNat ∧ e.c.toNat ≤ 126 ∧ e = ⟨4, 0, e.c, e.p, e.i, e.ps, []⟩ := by
  obtain ⟨_, hf, ho⟩ := chk_of h
  have hs : seqOk e.p e.ps e.i e.c = true := by unfold fits at hf; rw [if_neg (by omega), if_neg (by omega), if_neg (by omega), if_pos hk] at hf; exact hf
  unfold seqOk at hs
  simp only [Bool.and_eq_true, decide_eq_true_eq] at hs
  have h5 := Cp.fmt_ok hs.1
  have h6 := Cp.over_le h5.2.1
  have h8 := Cp.bad_parts h5.1
  have h7 := Cp.has_ge h8.2.2
  refine ⟨(Cp.fmt e.p e.ps e.i).1, by unfold enc; rw [if_neg (by omega), if_neg (by omega), if_neg (by omega), if_pos hk], ?_, ?_, Cp.parse_fmt hs.1, hs.2.1, hs.2.2, ?_⟩
  · rw [h5.2.2]
    refine within_app (within_app ?_ ?_) ?_
    · unfold Cp.hd
      split
      · rfl
      · rename_i hne
        rcases h8.1 with h | h
        · exact absurd h hne
        · refine within_of (q := Cp.isMk) (by simp [h]) (fun b hb => ?_)
          unfold Cp.isMk at hb
          simp at hb
          omega
    · refine within_of (Cp.bd_par false e.ps h7) (fun b hb => ?_)
      unfold Cp.isPar at hb
      simp at hb
      rcases hb with hb | hb
      · omega
      · subst hb; decide
    · refine within_of h8.2.1 (fun b hb => ?_)
      unfold Cp.isMid at hb
      simp at hb
      omega
  · rw [h5.2.2]
    have h9 := bd_short false e.ps (fun z hz => ⟨h7 z hz, h6.2.2 z hz⟩)
    have h10 : (Cp.hd e.p).length ≤ 1 := by unfold Cp.hd; split <;> simp
    rw [List.length_append, List.length_append]
    omega
  · have : only e = ⟨4, 0, e.c, e.p, e.i, e.ps, []⟩ := by unfold only; rw [if_neg (by omega), if_neg (by omega), if_neg (by omega), if_pos hk]
    rw [← this]; exact ho

theorem rd_sq_end {l : List UInt8} {c p : UInt8} {ps : List Int} {i : List UInt8} (hl : l.length ≤ 200) (hp : Cp.parse l = (p, ps, i, 0)) (h1 : 63 < c.toNat) (h2 : c.toNat ≤ 126) : rd ⟨2, [], l⟩ c = (zero, [⟨4, 0, c, p, i, ps, []⟩]) := by
  have e : rd ⟨2, [], l⟩ c = if 128 ≤ c.toNat then ground [] c else sq ⟨2, [], l⟩ c := rfl
  rw [e, if_neg (by omega)]
  unfold sq
  rw [if_neg (by rw [not_ctl (by omega) (by omega)]; decide), if_neg (by omega), if_neg (by simp only; omega)]
  simp [sqev, hp]
/-- What a command consists of. -/
theorem cmd_facts {e : E} (h : chk e = 0) (hk : e.k = 5) : enc e = 27 :: 93 :: (e.t ++ [7]) ∧ e.t.length ≤ 256 ∧ within 32 255 e.t = true ∧ e = ⟨5, 0, 0, 0, [], [], e.t⟩ := by
  obtain ⟨_, hf, ho⟩ := chk_of h
  have hs : cmdOk e.t = true := by unfold fits at hf; rw [if_neg (by omega), if_neg (by omega), if_neg (by omega), if_neg (by omega)] at hf; exact hf
  unfold cmdOk at hs
  simp only [Bool.and_eq_true, decide_eq_true_eq] at hs
  refine ⟨by unfold enc; rw [if_neg (by omega), if_neg (by omega), if_neg (by omega), if_neg (by omega)], hs.1, hs.2, ?_⟩
  have : only e = ⟨5, 0, 0, 0, [], [], e.t⟩ := by unfold only; rw [if_neg (by omega), if_neg (by omega), if_neg (by omega), if_neg (by omega), hk]
  rw [← this]; exact ho
theorem rd_cmd_end (l : List UInt8) : rd ⟨3, [], l⟩ 7 = (zero, [⟨5, 0, 0, 0, [], [], l⟩]) := rfl

/-- Where a parser is within the encoding of an escape or control sequence, behind each proper beginning: in the states Escape or Sequence, without an event. -/
def inner (p : P) : Prop := (p.st = 1 ∨ p.st = 2) ∧ p.pe = []
theorem esc_inner {e : E} (h : chk e = 0) (hk : e.k = 3) (k : Nat) (h1 : 1 ≤ k) (h2 : k < (enc e).length) : ∃ p, inner p ∧ from_ (zero, []) ((enc e).take k) = (p, []) := by
  obtain ⟨he, ho, _⟩ := esc_facts h hk
  obtain ⟨g1, g2, _⟩ := escOk_facts ho
  rw [he] at h2 ⊢
  obtain ⟨j, rfl⟩ : ∃ j, k = j + 1 := ⟨k - 1, by omega⟩
  simp at h2
  refine ⟨⟨1, [], e.i.take j⟩, ⟨.inl rfl, rfl⟩, ?_⟩
  rw [List.take_succ_cons, List.take_append_of_le_length (by omega), from_cons, add_27]
  have hw : within 32 47 (e.i.take j) = true := by
    unfold within at g2 ⊢
    rw [List.all_eq_true] at g2 ⊢
    exact fun b hb => g2 b (List.mem_of_mem_take hb)
  have := from_keep 1 3 32 47 rd_esc_keep (e.i.take j) [] [] hw (by rw [List.length_take]; simp; omega)
  exact this
theorem seq_inner {e : E} (h : chk e = 0) (hk : e.k = 4) (k : Nat) (h1 : 1 ≤ k) (h2 : k < (enc e).length) : ∃ p, inner p ∧ from_ (zero, []) ((enc e).take k) = (p, []) := by
  obtain ⟨l, he, hw, hl, _⟩ := seq_facts h hk
  rw [he] at h2 ⊢
  obtain ⟨j, rfl⟩ : ∃ j, k = j + 1 := ⟨k - 1, by omega⟩
  simp at h2
  rw [List.take_succ_cons, from_cons, add_27]
  cases j with
  | zero => exact ⟨inEsc, ⟨.inl rfl, rfl⟩, rfl⟩
  | succ j =>
    refine ⟨⟨2, [], l.take j⟩, ⟨.inr rfl, rfl⟩, ?_⟩
    rw [List.take_succ_cons, List.take_append_of_le_length (by omega), from_cons, add_91]
    have hw2 : within 32 63 (l.take j) = true := by
      unfold within at hw ⊢
      rw [List.all_eq_true] at hw ⊢
      exact fun b hb => hw b (List.mem_of_mem_take hb)
    exact from_keep 2 257 32 63 rd_sq_keep (l.take j) [] [] hw2 (by rw [List.length_take]; simp; omega)
theorem trip_3 {e : E} (h : chk e = 0) (hk : e.k = 3) (es : List E) : from_ (zero, es) (enc e) = (zero, es ++ [e]) := by
  obtain ⟨he, ho, heq⟩ := esc_facts h hk
  obtain ⟨g1, g2, _⟩ := escOk_facts ho
  rw [he, from_cons, add_27, from_append]
  have h1 := from_keep 1 3 32 47 rd_esc_keep e.i [] es g2 (by simp; omega)
  have h2 : from_ (inEsc, es) e.i = (⟨1, [], e.i⟩, es) := h1
  rw [h2, from_cons, from_nil]
  simp only [add, rd_esc_end ho]
  rw [← heq]
theorem trip_4 {e : E} (h : chk e = 0) (hk : e.k = 4) (es : List E) : from_ (zero, es) (enc e) = (zero, es ++ [e]) := by
  obtain ⟨l, he, hw, hl, hp, h1, h2, heq⟩ := seq_facts h hk
  rw [he, from_cons, add_27, from_cons, add_91, from_append]
  have h3 : from_ (⟨2, [], []⟩, es) l = (⟨2, [], l⟩, es) := from_keep 2 257 32 63 rd_sq_keep l [] es hw (by simp; omega)
  rw [h3, from_cons, from_nil]
  simp only [add, rd_sq_end hl hp h1 h2]
  rw [← heq]
theorem trip_5 {e : E} (h : chk e = 0) (hk : e.k = 5) (es : List E) : from_ (zero, es) (enc e) = (zero, es ++ [e]) := by
  obtain ⟨he, hl, hw, heq⟩ := cmd_facts h hk
  rw [he, from_cons, add_27, from_cons, add_93, from_append]
  have h3 : from_ (⟨3, [], []⟩, es) e.t = (⟨3, [], e.t⟩, es) := from_keep 3 256 32 255 rd_cmd_keep e.t [] es hw (by simp; omega)
  rw [h3, from_cons, from_nil]
  simp only [add, rd_cmd_end]
  rw [← heq]
/-- The encoding of a valid event is read as the event. -/
theorem trip {e : E} (h : chk e = 0) (es : List E) : from_ (zero, es) (enc e) = (zero, es ++ [e]) := by
  have hk := (chk_of h).1
  obtain h1 | h1 | h1 | h1 | h1 : e.k = 1 ∨ e.k = 2 ∨ e.k = 3 ∨ e.k = 4 ∨ e.k = 5 := by omega
  · exact trip_1 h h1 es
  · exact trip_2 h h1 es
  · exact trip_3 h h1 es
  · exact trip_4 h h1 es
  · exact trip_5 h h1 es
theorem trips (l : List E) : ∀ es, (∀ e ∈ l, chk e = 0) → from_ (zero, es) (l.flatMap enc) = (zero, es ++ l) := by
  induction l with
  | nil => intro es _; rw [List.flatMap_nil, from_nil, List.append_nil]
  | cons e l ih =>
    intro es h
    rw [List.flatMap_cons, from_append, trip (h e (by simp)), ih _ (fun x hx => h x (by simp [hx]))]
    simp
theorem feed_trips (l : List E) (h : ∀ e ∈ l, chk e = 0) : feed zero (l.flatMap enc) = (zero, l) := by
  unfold feed
  rw [norm_proper proper_zero, trips l [] h]
  rfl
theorem enc_len {e : E} (h : chk e = 0) : (enc e).length ≤ 400 := by
  have hk := (chk_of h).1
  obtain h1 | h1 | h1 | h1 | h1 : e.k = 1 ∨ e.k = 2 ∨ e.k = 3 ∨ e.k = 4 ∨ e.k = 5 := by omega
  · unfold enc
    rw [if_pos h1]
    obtain ⟨c, _, _, _, h3⟩ := U8.enc_forms e.r
    rw [h3]
    repeat' split
    all_goals simp
  · unfold enc
    rw [if_neg (by omega), if_pos h1]
    simp
  · obtain ⟨he, _⟩ := esc_facts h h1
    have := ok_small h
    rw [he]; simp; omega
  · obtain ⟨l, he, _, hl, _⟩ := seq_facts h h1
    rw [he]; simp; omega
  · obtain ⟨he, hl, _⟩ := cmd_facts h h1
    rw [he]; simp; omega

/-- A control character within a sequence is reported before it. -/
theorem inner_control {p : P} (hp : inner p) {b : UInt8} (hb : reported b = true) : rd p b = (p, [ctl b]) := by
  have := reported_facts hb
  obtain ⟨h1 | h1, _⟩ := hp
  · unfold rd
    rw [if_neg (by omega), if_pos h1, if_neg (by omega)]
    unfold esc
    rw [if_pos (isCtl_reported hb), control_reported hb]
  · unfold rd
    rw [if_neg (by omega), if_neg (by omega), if_pos h1, if_neg (by omega)]
    unfold sq
    rw [if_pos (isCtl_reported hb), control_reported hb]
/-- A byte that begins another sequence or a character of several bytes is read as from the beginning. -/
theorem inner_break {p : P} (hp : inner p) {b : UInt8} (hb : b.toNat = 27 ∨ 128 ≤ b.toNat) : rd p b = rd zero b := by
  have e0 : rd zero b = ground [] b := rfl
  rw [e0]
  rcases hb with hb | hb
  · have hb' : b = 27 := UInt8.toNat_inj.1 hb
    subst hb'
    obtain ⟨h1 | h1, _⟩ := hp
    · unfold rd
      rw [if_neg (by omega), if_pos h1, if_neg (by decide)]
      rfl
    · unfold rd
      rw [if_neg (by omega), if_neg (by omega), if_pos h1, if_neg (by decide)]
      rfl
  · obtain ⟨h1 | h1, _⟩ := hp
    · unfold rd
      rw [if_neg (by omega), if_pos h1, if_pos hb]
    · unfold rd
      rw [if_neg (by omega), if_neg (by omega), if_pos h1, if_pos hb]
theorem any_inner {e : E} (h : chk e = 0) (hk : e.k = 3 ∨ e.k = 4) (k : Nat) (h1 : 1 ≤ k) (h2 : k < (enc e).length) : ∃ p, inner p ∧ from_ (zero, []) ((enc e).take k) = (p, []) := by
  rcases hk with hk | hk
  · exact esc_inner h hk k h1 h2
  · exact seq_inner h hk k h1 h2
theorem feed_controls {e : E} (h : chk e = 0) (hk : e.k = 3 ∨ e.k = 4) (k : Nat) (h1 : 1 ≤ k) (h2 : k < (enc e).length) {b : UInt8} (hb : reported b = true) :
    feed zero ((enc e).take k ++ [b] ++ (enc e).drop k) = (zero, [ctl b, e]) := by
  obtain ⟨p, hp, hf⟩ := any_inner h hk k h1 h2
  unfold feed
  rw [norm_proper proper_zero, List.append_assoc, from_append, hf, List.singleton_append, from_cons]
  have e1 : add (p, []) b = (p, [ctl b]) := by simp [add, inner_control hp hb]
  rw [e1, from_out]
  have ht := trip h []
  rw [← List.take_append_drop k (enc e), from_append, hf] at ht
  rw [ht]
  rfl
theorem feed_broken {e f : E} (h : chk e = 0) (hk : e.k = 3 ∨ e.k = 4) (k : Nat) (h1 : 1 ≤ k) (h2 : k < (enc e).length) (hf : chk f = 0) {b : UInt8} {r : List UInt8} (hfe : enc f = b :: r) (hb : b.toNat = 27 ∨ 128 ≤ b.toNat) :
    feed zero ((enc e).take k ++ enc f) = (zero, [f]) := by
  obtain ⟨p, hp, hfr⟩ := any_inner h hk k h1 h2
  unfold feed
  rw [norm_proper proper_zero, from_append, hfr]
  have ht := trip hf []
  rw [hfe, from_cons] at ht ⊢
  have e1 : add (p, []) b = add (zero, []) b := by simp only [add, inner_break hp hb]
  rw [e1, ht]
  rfl

end Go.Proofs.YtckknodckiljkaaDoor.Vt
