/-
  The plain mathematics of layer 6: which events are valid, and that all events that are found are. No program in this text.
-/
import Derived.Test.YtihfjkjbeeoanaaDoorVtMath
import Derived.Test.YtihfjkjbeeoanaaDoorCpMore
namespace Go.Proofs.YtihfjkjbeeoanaaDoor.Vt

def reported (b : UInt8) : Bool := decide (b.toNat < 32) && (decide (b.toNat ≠ 24) && (decide (b.toNat ≠ 26) && decide (b.toNat ≠ 27)))
def escOk (i : List UInt8) (c : UInt8) : Bool := !(i.isEmpty && (decide (c.toNat = 91) || decide (c.toNat = 93))) && (decide (i.length ≤ 2) && (within 32 47 i && (decide (47 < c.toNat) && decide (c.toNat ≤ 126))))
def seqOk (p : UInt8) (ps : List Int) (i : List UInt8) (c : UInt8) : Bool := decide ((Cp.fmt p ps i).2 = 0) && (decide (63 < c.toNat) && decide (c.toNat ≤ 126))
def cmdOk (t : List UInt8) : Bool := decide (t.length ≤ 256) && within 32 255 t
/-- An event with the fields of its kind alone. -/
def only (e : E) : E :=
  if e.k = 1 then ⟨1, e.r, 0, 0, [], [], []⟩ else if e.k = 2 then ⟨2, 0, e.c, 0, [], [], []⟩ else if e.k = 3 then ⟨3, 0, e.c, 0, e.i, [], []⟩
  else if e.k = 4 then ⟨4, 0, e.c, e.p, e.i, e.ps, []⟩ else ⟨e.k, 0, 0, 0, [], [], e.t⟩
def fits (e : E) : Bool :=
  if e.k = 1 then printed e.r else if e.k = 2 then reported e.c else if e.k = 3 then escOk e.i e.c else if e.k = 4 then seqOk e.p e.ps e.i e.c else cmdOk e.t
theorem E.eq {a b : E} (h1 : a.k = b.k) (h2 : a.r = b.r) (h3 : a.c = b.c) (h4 : a.p = b.p) (h5 : a.i = b.i) (h6 : a.ps = b.ps) (h7 : a.t = b.t) : a = b := by cases a; cases b; simp_all
instance : DecidableEq E := fun a b => if h : a.k = b.k ∧ a.r = b.r ∧ a.c = b.c ∧ a.p = b.p ∧ a.i = b.i ∧ a.ps = b.ps ∧ a.t = b.t then .isTrue (E.eq h.1 h.2.1 h.2.2.1 h.2.2.2.1 h.2.2.2.2.1 h.2.2.2.2.2.1 h.2.2.2.2.2.2) else .isFalse fun e => h (e ▸ ⟨rfl, rfl, rfl, rfl, rfl, rfl, rfl⟩)
/-- What Check returns. -/
def chk (e : E) : Int := if 1 ≤ e.k ∧ e.k ≤ 5 then (if fits e && decide (e = only e) then 0 else 1) else 9

theorem chk_ok {e : E} (hk : 1 ≤ e.k ∧ e.k ≤ 5) (hf : fits e = true) (ho : e = only e) : chk e = 0 := by
  unfold chk
  rw [if_pos hk, hf, decide_eq_true ho]
  rfl
theorem chk_of {e : E} (h : chk e = 0) : (1 ≤ e.k ∧ e.k ≤ 5) ∧ fits e = true ∧ e = only e := by
  unfold chk at h
  split at h
  · rename_i hk
    split at h
    · rename_i h1
      rw [Bool.and_eq_true] at h1
      exact ⟨hk, h1.1, of_decide_eq_true h1.2⟩
    · cases h
  · cases h

theorem prints_ok (rs : List Int) : ∀ e ∈ prints rs, chk e = 0 := by
  intro e he
  unfold prints at he
  rw [List.mem_map] at he
  obtain ⟨r, hr, rfl⟩ := he
  rw [List.mem_filter] at hr
  exact chk_ok ⟨by show (1 : Int) ≤ 1; decide, by show (1 : Int) ≤ 5; decide⟩ hr.2 rfl
theorem control_ok (p : P) (b : UInt8) (h : isCtl b = true) : ∀ e ∈ (control p b).2, chk e = 0 := by
  intro e he
  unfold control at he
  split at he
  · cases he
  · split at he
    · cases he
    · split at he
      · cases he
      · simp at he
        subst he
        refine chk_ok ⟨by show (1 : Int) ≤ 2; decide, by show (2 : Int) ≤ 5; decide⟩ ?_ rfl
        have hb := isCtl_true h
        show reported b = true
        unfold reported
        simp
        omega
theorem ground_ok (pe : List UInt8) (b : UInt8) : ∀ e ∈ (ground pe b).2, chk e = 0 := by
  intro e he
  unfold ground at he
  split at he
  · rename_i h
    rw [List.mem_append] at he
    rcases he with he | he
    · exact prints_ok _ e he
    · exact control_ok _ b h e he
  · exact prints_ok _ e he
theorem esc_ok {p : P} (h1 : p.st = 1) (hp : proper p = true) (b : UInt8) (hb : b.toNat < 128) : ∀ e ∈ (esc p b).2, chk e = 0 := by
  intro e he
  rw [proper_1 h1] at hp
  simp only [Bool.and_eq_true, decide_eq_true_eq] at hp
  unfold esc at he
  split at he
  · rename_i h
    exact control_ok _ b h e he
  · rename_i hc
    rw [Bool.not_eq_true] at hc
    have hbb := isCtl_false hc
    split at he
    · cases he
    · rename_i h47
      split at he
      · cases he
      · rename_i h91
        split at he
        · cases he
        · rename_i h93
          split at he
          · cases he
          · rename_i h2
            simp at he
            subst he
            refine chk_ok ⟨by show (1 : Int) ≤ 3; decide, by show (3 : Int) ≤ 5; decide⟩ ?_ rfl
            show escOk p.bu b = true
            unfold escOk
            rw [hp.2.2]
            have e1 : (p.bu.isEmpty && (decide (b.toNat = 91) || decide (b.toNat = 93))) = false := by
              cases hh : p.bu with
              | nil => simp [hh] at h91 h93 ⊢; exact ⟨h91, h93⟩
              | cons _ _ => rfl
            rw [e1]
            simp
            omega
theorem sqev_ok (l : List UInt8) (b : UInt8) (h1 : 63 < b.toNat) (h2 : b.toNat ≤ 126) : ∀ e ∈ sqev l b, chk e = 0 := by
  intro e he
  unfold sqev at he
  obtain ⟨m, ps, i, er, hp⟩ : ∃ m ps i er, Cp.parse l = (m, ps, i, er) := ⟨_, _, _, _, rfl⟩
  simp only [hp] at he
  split at he
  · rename_i h0
    simp at he
    subst he
    subst h0
    refine chk_ok ⟨by show (1 : Int) ≤ 4; decide, by show (4 : Int) ≤ 5; decide⟩ ?_ rfl
    show seqOk m ps i b = true
    unfold seqOk
    obtain ⟨t, ht, _⟩ := Cp.fmt_parse hp
    simp [ht, h1, h2]
  · cases he
theorem sq_ok {p : P} (b : UInt8) (hb : b.toNat < 128) : ∀ e ∈ (sq p b).2, chk e = 0 := by
  intro e he
  unfold sq at he
  split at he
  · rename_i h
    exact control_ok _ b h e he
  · rename_i hc
    rw [Bool.not_eq_true] at hc
    have hbb := isCtl_false hc
    split at he
    · cases he
    · split at he
      · cases he
      · exact sqev_ok _ b (by omega) (by omega) e he
theorem done_ok {p : P} (h1 : p.st = 3 ∨ p.st = 4) (hp : proper p = true) : ∀ e ∈ (done p).2, chk e = 0 := by
  intro e he
  rw [proper_34 h1, Bool.and_eq_true] at hp
  simp [done] at he
  subst he
  exact chk_ok ⟨by show (1 : Int) ≤ 5; decide, by show (5 : Int) ≤ 5; decide⟩ hp.2 rfl
theorem cmd_ok {p : P} (h1 : p.st = 3) (hp : proper p = true) (b : UInt8) : ∀ e ∈ (cmd p b).2, chk e = 0 := by
  intro e he
  unfold cmd at he
  split at he
  · exact done_ok (.inl h1) hp e he
  · split at he
    · cases he
    · split at he
      · cases he
      · split at he
        · cases he
        · cases he
theorem rd_ok {p : P} (hp : proper p = true) (b : UInt8) : ∀ e ∈ (rd p b).2, chk e = 0 := by
  intro e he
  unfold rd at he
  split at he
  · split at he
    · exact done_ok (.inr (by assumption)) hp e he
    · split at he
      · exact ground_ok _ b e he
      · exact esc_ok rfl proper_esc b (by omega) e he
  · split at he
    · split at he
      · exact ground_ok _ b e he
      · exact esc_ok (by assumption) hp b (by omega) e he
    · split at he
      · split at he
        · exact ground_ok _ b e he
        · exact sq_ok b (by omega) e he
      · split at he
        · exact cmd_ok (by assumption) hp b e he
        · exact ground_ok _ b e he
theorem from_ok (l : List UInt8) : ∀ s : P × List E, proper s.1 = true → (∀ e ∈ s.2, chk e = 0) → ∀ e ∈ (from_ s l).2, chk e = 0 := by
  induction l with
  | nil => intro s _ h; exact h
  | cons b l ih =>
    intro s hp h
    rw [from_cons]
    refine ih _ (rd_proper hp b) ?_
    intro e he
    simp only [add, List.mem_append] at he
    rcases he with he | he
    · exact h e he
    · exact rd_ok hp b e he
/-- All events that are found are valid. -/
theorem feed_ok (p : P) (l : List UInt8) : ∀ e ∈ (feed p l).2, chk e = 0 := from_ok l _ (proper_norm p) (fun e he => by cases he)

theorem ok_ps {e : E} (h : chk e = 0) : e.ps.length ≤ 16 := by
  obtain ⟨hk, hf, ho⟩ := chk_of h
  rw [ho]
  unfold only
  unfold fits at hf
  split
  · simp
  · split
    · simp
    · split
      · simp
      · split
        · rename_i h1 h2 h3 h4
          rw [if_neg h1, if_neg h2, if_neg h3, if_pos h4] at hf
          unfold seqOk at hf
          simp at hf
          have := Cp.fmt_ok hf.1
          have := Cp.over_le this.2.1
          exact this.1
        · simp

end Go.Proofs.YtihfjkjbeeoanaaDoor.Vt
