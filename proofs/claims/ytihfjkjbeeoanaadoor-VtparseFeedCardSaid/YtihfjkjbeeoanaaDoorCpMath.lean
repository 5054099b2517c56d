/-
  The plain mathematics of layer 5: what a body is, what its parameters are, how parameters are written. No program in this text.
-/
import Derived.Lib.ItoaNum
import Derived.Lib.SlTrimSet
namespace Go.Proofs.YtihfjkjbeeoanaaDoor.Cp

def isMk (b : UInt8) : Bool := decide (60 ≤ b.toNat) && decide (b.toNat ≤ 63)
def isMid (b : UInt8) : Bool := decide (32 ≤ b.toNat) && decide (b.toNat ≤ 47)
def isPar (b : UInt8) : Bool := (decide (48 ≤ b.toNat) && decide (b.toNat ≤ 57)) || b == 59

theorem u8_all {p : UInt8 → Bool} (h : (List.range 256).all (fun n => p (UInt8.ofNat n)) = true) (b : UInt8) : p b = true := by
  rw [List.all_eq_true] at h
  have := h b.toNat (List.mem_range.2 b.toNat_lt)
  rw [UInt8.ofNat_toNat] at this
  exact this
theorem isPar_cut (b : UInt8) : isPar b = ([48, 49, 50, 51, 52, 53, 54, 55, 56, 57, 59] : List UInt8).contains b := by
  have := u8_all (p := fun b => isPar b == ([48, 49, 50, 51, 52, 53, 54, 55, 56, 57, 59] : List UInt8).contains b) (by decide +kernel) b
  simpa using this
theorem par_not_mk (b : UInt8) (h : isPar b = true) : isMk b = false := by
  have := u8_all (p := fun b => !isPar b || !isMk b) (by decide +kernel) b
  rw [h] at this
  simpa using this
theorem mid_not_mk (b : UInt8) (h : isMid b = true) : isMk b = false := by
  have := u8_all (p := fun b => !isMid b || !isMk b) (by decide +kernel) b
  rw [h] at this
  simpa using this
theorem mid_not_par (b : UInt8) (h : isMid b = true) : isPar b = false := by
  have := u8_all (p := fun b => !isMid b || !isPar b) (by decide +kernel) b
  rw [h] at this
  simpa using this
theorem mk_not_zero (b : UInt8) (h : isMk b = true) : b ≠ 0 := by
  intro e
  subst e
  revert h
  decide
theorem par_digit (b : UInt8) (h : isPar b = true) (hn : b ≠ 59) : 48 ≤ b.toNat ∧ b.toNat ≤ 57 := by
  unfold isPar at h
  simp [hn] at h
  exact h

/-- The private marker (0: none), and what follows it. -/
def mk : List UInt8 → UInt8
  | [] => 0
  | b :: _ => if isMk b then b else 0
def tl : List UInt8 → List UInt8
  | [] => []
  | b :: r => if isMk b then r else b :: r
def par (l : List UInt8) : List UInt8 := (tl l).takeWhile isPar
def mid (l : List UInt8) : List UInt8 := (tl l).dropWhile isPar

/-- A digit behind a value. -/
def dg (v : Int) (b : UInt8) : Int := min (max v 0 * 10 + ((b.toNat : Int) - 48)) 10000
/-- The parameters of the bytes l behind the value v. -/
def vs : Int → List UInt8 → List Int
  | v, [] => [v]
  | v, b :: r => if b = 59 then v :: vs (-1) r else vs (dg v b) r
def vals (l : List UInt8) : List Int := if l = [] then [] else vs (-1) l

def over (ps : List Int) (i : List UInt8) : Bool := decide (16 < ps.length) || decide (2 < i.length) || ps.any fun z => decide (9999 < z)

/-- What Parse returns. -/
def parse (l : List UInt8) : UInt8 × List Int × List UInt8 × Int :=
  if (mid l).all isMid then (if over (vals (par l)) (mid l) then (0, [], [], 5) else (mk l, vals (par l), mid l, 0)) else (0, [], [], 3)

/-- How a parameter is written. -/
def num (n : Int) : List UInt8 := if n = -1 then [] else Lib.itoa n
def bd : Bool → List Int → List UInt8
  | _, [] => []
  | f, n :: r => (if f then [59] else []) ++ num n ++ bd true r
def hd (p : UInt8) : List UInt8 := if p = 0 then [] else [p]
def has (ps : List Int) : Bool := if ps.length = 1 then decide (-1 < ps.getD 0 0) else !ps.any fun z => decide (z < -1)
def bad (p : UInt8) (ps : List Int) (i : List UInt8) : Bool := (decide (p ≠ 0) && !isMk p) || !i.all isMid || !has ps
/-- What Format returns. -/
def fmt (p : UInt8) (ps : List Int) (i : List UInt8) : List UInt8 × Int :=
  if bad p ps i then ([], 1) else if over ps i then ([], 5) else (hd p ++ bd false ps ++ i, 0)

theorem bd_snoc (f : Bool) (r : List Int) (n : Int) : bd f (r ++ [n]) = bd f r ++ (if f || decide (r ≠ []) then [59] else []) ++ num n := by
  induction r generalizing f with
  | nil => simp [bd]
  | cons m r ih =>
    rw [List.cons_append, bd, ih true, bd]
    simp
theorem bd_len (f : Bool) (ps : List Int) (h : ∀ z ∈ ps, (num z).length ≤ 21) : (bd f ps).length ≤ 22 * ps.length := by
  induction ps generalizing f with
  | nil => simp [bd]
  | cons n r ih =>
    have h1 := h n (by simp)
    have h2 := ih true (fun z hz => h z (by simp [hz]))
    have h3 : (if f = true then ([59] : List UInt8) else []).length ≤ 1 := by split <;> simp
    rw [bd, List.length_append, List.length_append, List.length_cons]
    omega

/-! ### The walk's steps -/

theorem vs_ne (v : Int) (l : List UInt8) : vs v l ≠ [] := by
  induction l generalizing v with
  | nil => simp [vs]
  | cons b r ih =>
    unfold vs
    split
    · simp
    · exact ih _
/-- The parameters that are complete, and the one that is under way. -/
def step (st : List Int × Int) (b : UInt8) : List Int × Int := if b = 59 then (st.1 ++ [st.2], -1) else (st.1, dg st.2 b)
def go (st : List Int × Int) (l : List UInt8) : List Int × Int := l.foldl step st
theorem go_snoc (st : List Int × Int) (l : List UInt8) (b : UInt8) : go st (l ++ [b]) = step (go st l) b := by simp [go]
theorem go_full (o : List Int) (v : Int) (l : List UInt8) : (go (o, v) l).1 ++ [(go (o, v) l).2] = o ++ vs v l := by
  induction l generalizing o v with
  | nil => simp [go, vs]
  | cons b r ih =>
    have e : go (o, v) (b :: r) = go (step (o, v) b) r := rfl
    rw [e]
    by_cases h : b = 59
    · have e1 : step (o, v) b = (o ++ [v], -1) := by unfold step; rw [if_pos h]
      rw [e1, ih]
      simp [vs, h]
    · have e1 : step (o, v) b = (o, dg v b) := by unfold step; rw [if_neg h]
      rw [e1, ih]
      simp [vs, h]
theorem dg_le (v : Int) (b : UInt8) : dg v b ≤ 10000 := by unfold dg; omega
theorem dg_ge (v : Int) (b : UInt8) (h : 48 ≤ b.toNat) : 0 ≤ dg v b := by unfold dg; omega
theorem vs_len (v : Int) (l : List UInt8) : (vs v l).length ≤ l.length + 1 := by
  induction l generalizing v with
  | nil => simp [vs]
  | cons b r ih =>
    unfold vs
    split
    · have := ih (-1); simp only [List.length_cons]; omega
    · have := ih (dg v b); simp only [List.length_cons]; omega
theorem go_len (l : List UInt8) : (go ([], -1) l).1.length ≤ l.length := by
  have h := go_full [] (-1) l
  have h2 := congrArg List.length h
  have h3 := vs_len (-1) l
  simp at h2
  omega
/-- The value that is under way is from -1 to 10000. -/
theorem go_cur (o : List Int) (v : Int) (l : List UInt8) (hv : -1 ≤ v ∧ v ≤ 10000) (hl : l.all isPar = true) : -1 ≤ (go (o, v) l).2 ∧ (go (o, v) l).2 ≤ 10000 := by
  induction l generalizing o v with
  | nil => exact hv
  | cons b r ih =>
    rw [List.all_cons, Bool.and_eq_true] at hl
    have e : go (o, v) (b :: r) = go (step (o, v) b) r := rfl
    rw [e]
    by_cases h : b = 59
    · have e1 : step (o, v) b = (o ++ [v], -1) := by unfold step; rw [if_pos h]
      rw [e1]
      exact ih _ _ (by omega) hl.2
    · have e1 : step (o, v) b = (o, dg v b) := by unfold step; rw [if_neg h]
      rw [e1]
      have h1 := (par_digit b hl.1 h).1
      have h2 := dg_ge v b h1
      have h3 := dg_le v b
      exact ih _ _ (by omega) hl.2

/-! ### A body's parts -/

theorem par_all (l : List UInt8) : (par l).all isPar = true := by
  unfold par
  induction tl l with
  | nil => rfl
  | cons b r ih =>
    rw [List.takeWhile_cons]
    cases h : isPar b
    · rfl
    · simp [h]
theorem par_mid (l : List UInt8) : par l ++ mid l = tl l := List.takeWhile_append_dropWhile
theorem hd_tl (l : List UInt8) : hd (mk l) ++ tl l = l := by
  cases l with
  | nil => rfl
  | cons b r =>
    unfold mk tl
    cases h : isMk b
    · simp [hd, h]
    · have := mk_not_zero b h
      simp [hd, this, h]
theorem takeWhile_app {p : UInt8 → Bool} (a b : List UInt8) (ha : a.all p = true) (hb : ∀ x r, b = x :: r → p x = false) : (a ++ b).takeWhile p = a ∧ (a ++ b).dropWhile p = b := by
  induction a with
  | nil =>
    cases b with
    | nil => exact ⟨rfl, rfl⟩
    | cons x r =>
      have := hb x r rfl
      simp [this]
  | cons y t ih =>
    rw [List.all_cons, Bool.and_eq_true] at ha
    have := ih ha.2
    simp [ha.1, this.1, this.2]
/-- A body is taken apart as it was put together. -/
theorem parts (p : UInt8) (x i : List UInt8) (hp : p = 0 ∨ isMk p = true) (hx : x.all isPar = true) (hi : i.all isMid = true) :
    mk (hd p ++ x ++ i) = p ∧ par (hd p ++ x ++ i) = x ∧ mid (hd p ++ x ++ i) = i := by
  have hti : ∀ y r, i = y :: r → isPar y = false := by
    intro y r e
    subst e
    rw [List.all_cons, Bool.and_eq_true] at hi
    exact mid_not_par y hi.1
  have key := takeWhile_app x i hx hti
  have e : mk (hd p ++ x ++ i) = p ∧ tl (hd p ++ x ++ i) = x ++ i := by
    by_cases h0 : p = 0
    · subst h0
      have e0 : hd 0 ++ x ++ i = x ++ i := by simp [hd]
      rw [e0]
      cases hxi : x ++ i with
      | nil => exact ⟨rfl, rfl⟩
      | cons b r =>
        have hb : isMk b = false := by
          cases x with
          | nil =>
            cases i with
            | nil => cases hxi
            | cons y t =>
              injection hxi with e1 _
              subst e1
              rw [List.all_cons, Bool.and_eq_true] at hi
              exact mid_not_mk _ hi.1
          | cons y t =>
            injection hxi with e1 _
            subst e1
            rw [List.all_cons, Bool.and_eq_true] at hx
            exact par_not_mk _ hx.1
        simp [mk, tl, hb]
    · rcases hp with hp | hp
      · exact absurd hp h0
      · simp [hd, h0, mk, tl, hp]
  refine ⟨e.1, ?_, ?_⟩
  · unfold par; rw [e.2]; exact key.1
  · unfold mid; rw [e.2]; exact key.2

/-! ### Joined parameters -/

theorem vs_join (v : Int) (a b : List UInt8) : vs v (a ++ 59 :: b) = vs v a ++ vs (-1) b := by
  induction a generalizing v with
  | nil => simp [vs]
  | cons x r ih =>
    simp only [List.cons_append]
    by_cases h : x = 59
    · rw [vs, if_pos h, vs, if_pos h, ih]; rfl
    · rw [vs, if_neg h, vs, if_neg h]
      exact ih _

/-! ### Decimal numbers -/

theorem itoa_digit (d : Nat) (h : d < 10) : Lib.itoa (d : Int) = [UInt8.ofNat (48 + d)] := by
  have e : Lib.itoa (d : Int) = Lib.decDigits d := by unfold Lib.itoa; rw [if_neg (by omega)]; rfl
  rw [e, Lib.decDigits, dif_pos h]
theorem itoa_more (v d : Nat) (hv : 0 < v) (h : d < 10) : Lib.itoa ((10 * v + d : Nat) : Int) = Lib.itoa (v : Int) ++ [UInt8.ofNat (48 + d)] := by
  have e : ∀ n : Nat, Lib.itoa (n : Int) = Lib.decDigits n := fun n => by unfold Lib.itoa; rw [if_neg (by omega)]; rfl
  rw [e, e, Lib.decDigits, dif_neg (by omega)]
  have e1 : (10 * v + d) / 10 = v := by omega
  have e2 : (10 * v + d) % 10 = d := by omega
  rw [e1, e2]
theorem ofNat_digit (d : Nat) (h : d < 10) : (UInt8.ofNat (48 + d)).toNat = 48 + d := by
  rw [UInt8.toNat_ofNat']; omega
theorem digit_par (d : Nat) (h : d < 10) : isPar (UInt8.ofNat (48 + d)) = true := by
  unfold isPar; rw [ofNat_digit d h]; simp; omega
theorem digit_ne (d : Nat) (h : d < 10) : UInt8.ofNat (48 + d) ≠ 59 := by
  intro e
  have := congrArg UInt8.toNat e
  rw [ofNat_digit d h] at this
  have e59 : (59 : UInt8).toNat = 59 := rfl
  omega
theorem digit_back (b : UInt8) (h0 : 48 ≤ b.toNat) : UInt8.ofNat (48 + (b.toNat - 48)) = b := by
  have e : 48 + (b.toNat - 48) = b.toNat := by omega
  rw [e]
  exact UInt8.ofNat_toNat
theorem itoa_par (n : Nat) : (Lib.itoa (n : Int)).all isPar = true ∧ Lib.itoa (n : Int) ≠ [] := by
  induction n using Nat.strongRecOn with
  | _ n ih =>
    by_cases h : n < 10
    · rw [itoa_digit n h, List.all_cons, digit_par n h]
      exact ⟨rfl, by simp⟩
    · have e : n = 10 * (n / 10) + n % 10 := by omega
      rw [e, itoa_more (n / 10) (n % 10) (by omega) (by omega)]
      have h1 := ih (n / 10) (by omega)
      have h2 := digit_par (n % 10) (by omega)
      refine ⟨?_, by simp⟩
      rw [List.all_append, h1.1, List.all_cons, h2]
      rfl
/-- The digits of a number are read as the number. -/
theorem vs_itoa (n : Nat) (hn : n ≤ 9999) (r : List UInt8) : vs (-1) (Lib.itoa (n : Int) ++ r) = vs (n : Int) r := by
  induction n using Nat.strongRecOn generalizing r with
  | _ n ih =>
    by_cases h : n < 10
    · rw [itoa_digit n h]
      have e : dg (-1) (UInt8.ofNat (48 + n)) = (n : Int) := by unfold dg; rw [ofNat_digit n h]; omega
      simp only [List.cons_append, List.nil_append]
      rw [vs, if_neg (digit_ne n h), e]
    · have e : n = 10 * (n / 10) + n % 10 := by omega
      have hd := ofNat_digit (n % 10) (by omega)
      have e2 : dg ((n / 10 : Nat) : Int) (UInt8.ofNat (48 + n % 10)) = (n : Int) := by unfold dg; rw [hd]; omega
      have e3 : Lib.itoa (n : Int) = Lib.itoa ((n / 10 : Nat) : Int) ++ [UInt8.ofNat (48 + n % 10)] := by
        have := itoa_more (n / 10) (n % 10) (by omega) (by omega)
        rw [← this]
        congr 1
        omega
      rw [e3, List.append_assoc, ih (n / 10) (by omega) (by omega)]
      simp only [List.cons_append, List.nil_append]
      rw [vs, if_neg (digit_ne (n % 10) (by omega)), e2]

/-! ### Round trip -/

theorem num_par (n : Int) (h : -1 ≤ n) : (num n).all isPar = true := by
  unfold num
  split
  · rfl
  · obtain ⟨k, rfl⟩ : ∃ k : Nat, n = k := ⟨n.toNat, by omega⟩
    exact (itoa_par k).1
theorem bd_par (f : Bool) (ps : List Int) (h : ∀ z ∈ ps, -1 ≤ z) : (bd f ps).all isPar = true := by
  induction ps generalizing f with
  | nil => rfl
  | cons n r ih =>
    unfold bd
    rw [List.all_append, List.all_append, num_par n (h n (by simp)), ih true (fun z hz => h z (by simp [hz]))]
    cases f
    · rfl
    · decide
theorem vs_num (n : Int) (h0 : -1 ≤ n) (h1 : n ≤ 9999) (r : List UInt8) : vs (-1) (num n ++ r) = vs n r := by
  unfold num
  split
  · rename_i h; subst h; rfl
  · obtain ⟨k, rfl⟩ : ∃ k : Nat, n = k := ⟨n.toNat, by omega⟩
    exact vs_itoa k (by omega) r
theorem vs_bd (n : Int) (ps : List Int) (h : ∀ z ∈ n :: ps, -1 ≤ z ∧ z ≤ 9999) : vs (-1) (bd false (n :: ps)) = n :: ps := by
  induction ps generalizing n with
  | nil =>
    have hn := h n (by simp)
    have e : bd false [n] = num n ++ [] := by simp [bd]
    rw [e, vs_num n hn.1 hn.2]
    rfl
  | cons m r ih =>
    have hn := h n (by simp)
    have e : bd false (n :: m :: r) = num n ++ 59 :: bd false (m :: r) := by simp [bd]
    rw [e, vs_num n hn.1 hn.2, vs, if_pos rfl, ih m (fun z hz => h z (by simp only [List.mem_cons] at hz ⊢; exact .inr hz))]
theorem has_ge {ps : List Int} (h : has ps = true) : ∀ z ∈ ps, -1 ≤ z := by
  intro z hz
  unfold has at h
  split at h
  · rename_i h1
    match ps, h1 with
    | [x], _ =>
      simp at h hz
      omega
  · simp at h
    have := h z hz
    omega
theorem over_le {ps : List Int} {i : List UInt8} (h : over ps i = false) : ps.length ≤ 16 ∧ i.length ≤ 2 ∧ ∀ z ∈ ps, z ≤ 9999 := by
  unfold over at h
  simp at h
  exact ⟨by omega, by omega, h.2⟩
theorem vals_bd (ps : List Int) (h : has ps = true) (h9 : ∀ z ∈ ps, z ≤ 9999) : vals (bd false ps) = ps := by
  have h1 := has_ge h
  cases ps with
  | nil => rfl
  | cons n r =>
    have e := vs_bd n r (fun z hz => ⟨h1 z hz, h9 z hz⟩)
    unfold vals
    split
    · rename_i h0
      rw [h0] at e
      injection e with e1 e2
      subst e1 e2
      simp [has] at h
    · exact e
theorem fmt_ok {p : UInt8} {ps : List Int} {i : List UInt8} (h : (fmt p ps i).2 = 0) : bad p ps i = false ∧ over ps i = false ∧ (fmt p ps i).1 = hd p ++ bd false ps ++ i := by
  unfold fmt at h ⊢
  cases hb : bad p ps i
  · cases ho : over ps i
    · simp
    · simp [hb, ho] at h
  · simp [hb] at h
theorem bad_parts {p : UInt8} {ps : List Int} {i : List UInt8} (h : bad p ps i = false) : (p = 0 ∨ isMk p = true) ∧ i.all isMid = true ∧ has ps = true := by
  unfold bad at h
  simp only [Bool.or_eq_false_iff, Bool.and_eq_false_iff, Bool.not_eq_false', decide_eq_false_iff_not] at h
  refine ⟨?_, h.1.2, h.2⟩
  rcases h.1.1 with h | h
  · left; exact Decidable.of_not_not h
  · right; exact h
/-- What is formatted is parsed as it was. -/
theorem parse_fmt {p : UInt8} {ps : List Int} {i : List UInt8} (h : (fmt p ps i).2 = 0) : parse (fmt p ps i).1 = (p, ps, i, 0) := by
  obtain ⟨hb, ho, e⟩ := fmt_ok h
  obtain ⟨hp, hi, hh⟩ := bad_parts hb
  obtain ⟨e1, e2, e3⟩ := parts p (bd false ps) i hp (bd_par false ps (has_ge hh)) hi
  rw [e]
  unfold parse
  rw [e1, e2, e3, vals_bd ps hh (over_le ho).2.2, hi, ho]
  rfl
theorem fmt_err {p : UInt8} {ps : List Int} {i : List UInt8} (h : (fmt p ps i).2 ≠ 0) : (fmt p ps i).1 = [] := by
  unfold fmt at h ⊢
  split
  · rfl
  · split
    · rfl
    · rename_i h1 h2
      simp [h1, h2] at h

end Go.Proofs.YtihfjkjbeeoanaaDoor.Cp
