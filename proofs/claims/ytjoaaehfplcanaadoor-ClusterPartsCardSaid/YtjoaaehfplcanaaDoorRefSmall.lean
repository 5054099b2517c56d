/-
  The document's own decoder: what limits and value return for the bytes of an open or whole sequence.
-/
import Derived.Test.YtjoaaehfplcanaaDoorUse
import Derived.LoopN
namespace Go.Proofs.YtjoaaehfplcanaaDoor
open Go.RowKit Go.Shelf

/-- The slice of length n at A reads, in the world w, as the bytes l. -/
def Bytes (w : World) (A : Option Addr) (n : Nat) (l : List UInt8) : Prop :=
  l.length = n ∧ ∀ j, j < n → ∃ b off, A = some ⟨b, off, none⟩ ∧ w.cell? ⟨b, off + j, none⟩ = some (.int .u8 ((l.getD j 0).toNat : Int))

/-- How long the sequences are that begin with a byte, if longer than one. -/
def sizeOfFirst (c : Nat) : Nat := if U8.seqLen c = 1 then 0 else U8.seqLen c

theorem ret_three {k1 k2 k3 : IntKind} {a b c a' b' c' : Int} (h1 : a = a') (h2 : b = b') (h3 : c = c') : Ending.returned (.tuple #[.int k1 a, .int k2 b, .int k3 c]) = .returned (.tuple #[.int k1 a', .int k2 b', .int k3 c']) := by rw [h1, h2, h3]

set_option maxHeartbeats 1000000 in
set_option maxRecDepth 100000 in
theorem limits_any (A : Option Addr) (n c : Nat) (l : List UInt8) (w : World) (hn : 1 ≤ n) (hn2 : n ≤ 100) (h : Bytes w A n l) :
    Calls Tryd.prog 55 #[.slice A n c] w fun e w' => e = .returned (.tuple #[.int .u8 ((U8.low l : Nat) : Int), .int .u8 ((U8.high l : Nat) : Int), .int .i64 ((sizeOfFirst (U8.first l) : Nat) : Int)]) ∧ w = w' := by
  obtain ⟨b, off, rfl, hc⟩ := h.2 0 (by omega)
  have hl := h.1
  have hf : (l.getD 0 0).toNat = U8.first l := by
    cases l with
    | nil => rfl
    | cons a r => rfl
  rw [hf, Nat.add_zero] at hc
  obtain ⟨f, hff⟩ : ∃ f, U8.first l = f := ⟨_, rfl⟩
  have hfl : f < 256 := by rw [← hff, ← hf]; exact UInt8.toNat_lt _
  obtain ⟨r1, hr1⟩ : ∃ r1, U8.low l = r1 := ⟨_, rfl⟩
  obtain ⟨r2, hr2⟩ : ∃ r2, U8.high l = r2 := ⟨_, rfl⟩
  obtain ⟨r3, hr3⟩ : ∃ r3, sizeOfFirst (U8.first l) = r3 := ⟨_, rfl⟩
  rw [hr1, hr2, hr3]
  unfold U8.low at hr1
  unfold U8.high at hr2
  unfold sizeOfFirst U8.seqLen at hr3
  rw [hl, hff] at hr1 hr2
  rw [hff] at hr3
  rw [hff] at hc
  have HR := Lib.hid (And.intro hr1 (And.intro hr2 hr3))
  clear hr1 hr2 hr3 hff hf hl h
  have hn0 : ((n : Int) == 0) = false := by simp; omega
  have hnz : (0 : Int) < (n : Int) := by omega
  go_enter Tryd.func55, Tryd.ntmps55
  go_wp2
  all_goals
    obtain ⟨e1, e2, e3⟩ := HR.out
    clear HR
    go_ret3
    refine ⟨ret_three ?_ ?_ ?_, rfl⟩
    all_goals
      go_light
      try simp only [beq_iff_eq, beq_eq_false_iff_ne, ne_eq] at *
    · clear e2 e3
      repeat' split at e1
      all_goals omega
    · clear e1 e3
      repeat' split at e2
      all_goals omega
    · clear e1 e2
      repeat' split at e3
      all_goals omega

theorem pre_bounds {l : List UInt8} (h : U8.Pre l) : ∀ j, 1 ≤ j → j < l.length → 128 ≤ (l.getD j 0).toNat ∧ (l.getD j 0).toNat ≤ 191 := by
  intro j hj hl
  have hfst : ∀ a b : UInt8, U8.mayF [a] b.toNat = true → 128 ≤ b.toNat ∧ b.toNat ≤ 191 := by
    intro a b hb
    have hm := U8.mayF_first hb
    revert hm
    repeat' split
    all_goals omega
  match l, h with
  | [a], _ => simp at hl; omega
  | [a, b], h =>
    obtain rfl : j = 1 := by simp at hl; omega
    exact hfst a b h.2
  | [a, b, c], h =>
    obtain rfl | rfl : j = 1 ∨ j = 2 := by simp at hl; omega
    · exact hfst a b h.2.1
    · exact U8.mayF_later (by simp) h.2.2
  | [a, b, c, d], h =>
    obtain rfl | rfl | rfl : j = 1 ∨ j = 2 ∨ j = 3 := by simp at hl; omega
    · exact hfst a b h.2.1
    · exact U8.mayF_later (by simp) h.2.2.1
    · exact U8.mayF_later (by simp) h.2.2.2

set_option maxHeartbeats 1000000 in
set_option maxRecDepth 100000 in
theorem value_two (a0 a1 : Nat) (b off c : Nat) (w : World) (h0 : w.cell? ⟨b, off, none⟩ = some (.int .u8 (a0 : Int))) (h1 : w.cell? ⟨b, off + 1, none⟩ = some (.int .u8 (a1 : Int))) (k0 : 192 ≤ a0 ∧ a0 ≤ 223) (k1 : 128 ≤ a1 ∧ a1 ≤ 191) :
    Calls Tryd.prog 56 #[.slice (some ⟨b, off, none⟩) 2 c] w fun e w' => e = .returned (.int .i32 ((a0 % 32 * 64 + a1 % 64 : Nat) : Int)) ∧ w = w' := by
  go_enter Tryd.func56, Tryd.ntmps56
  go_wp2
  refine wp_loop_rounds 2 ?_
  rw [rounds_succ]
  go_wp2
  rw [rounds_succ]
  go_wp2
  go_ret
  exact ⟨ret_int (by omega), rfl⟩

set_option maxHeartbeats 1000000 in
set_option maxRecDepth 100000 in
theorem value_three (a0 a1 a2 : Nat) (b off c : Nat) (w : World) (h0 : w.cell? ⟨b, off, none⟩ = some (.int .u8 (a0 : Int))) (h1 : w.cell? ⟨b, off + 1, none⟩ = some (.int .u8 (a1 : Int))) (h2 : w.cell? ⟨b, off + 2, none⟩ = some (.int .u8 (a2 : Int)))
    (k0 : 224 ≤ a0 ∧ a0 ≤ 239) (k1 : 128 ≤ a1 ∧ a1 ≤ 191) (k2 : 128 ≤ a2 ∧ a2 ≤ 191) :
    Calls Tryd.prog 56 #[.slice (some ⟨b, off, none⟩) 3 c] w fun e w' => e = .returned (.int .i32 ((a0 % 16 * 4096 + a1 % 64 * 64 + a2 % 64 : Nat) : Int)) ∧ w = w' := by
  go_enter Tryd.func56, Tryd.ntmps56
  go_wp2
  refine wp_loop_rounds 3 ?_
  rw [rounds_succ]
  go_wp2
  rw [rounds_succ]
  go_wp2
  rw [rounds_succ]
  go_wp2
  go_ret
  exact ⟨ret_int (by omega), rfl⟩

set_option maxHeartbeats 1000000 in
set_option maxRecDepth 100000 in
theorem value_four (a0 a1 a2 a3 : Nat) (b off c : Nat) (w : World) (h0 : w.cell? ⟨b, off, none⟩ = some (.int .u8 (a0 : Int))) (h1 : w.cell? ⟨b, off + 1, none⟩ = some (.int .u8 (a1 : Int))) (h2 : w.cell? ⟨b, off + 2, none⟩ = some (.int .u8 (a2 : Int))) (h3 : w.cell? ⟨b, off + 3, none⟩ = some (.int .u8 (a3 : Int)))
    (k0 : 240 ≤ a0 ∧ a0 ≤ 244) (k1 : 128 ≤ a1 ∧ a1 ≤ 191) (k2 : 128 ≤ a2 ∧ a2 ≤ 191) (k3 : 128 ≤ a3 ∧ a3 ≤ 191) :
    Calls Tryd.prog 56 #[.slice (some ⟨b, off, none⟩) 4 c] w fun e w' => e = .returned (.int .i32 ((a0 % 8 * 262144 + a1 % 64 * 4096 + a2 % 64 * 64 + a3 % 64 : Nat) : Int)) ∧ w = w' := by
  go_enter Tryd.func56, Tryd.ntmps56
  go_wp2
  refine wp_loop_rounds 4 ?_
  rw [rounds_succ]
  go_wp2
  rw [rounds_succ]
  go_wp2
  rw [rounds_succ]
  go_wp2
  rw [rounds_succ]
  go_wp2
  go_ret
  exact ⟨ret_int (by omega), rfl⟩

/-- value at the bytes of a whole sequence of more than one byte. -/
theorem value_any (A : Option Addr) (n c : Nat) (l : List UInt8) (w : World) (h : Bytes w A n l) (hP : U8.Pre l) (he : U8.seqLen (U8.first l) = l.length) (hn : 1 < n) :
    Calls Tryd.prog 56 #[.slice A n c] w fun e w' => e = .returned (.int .i32 ((U8.val l : Nat) : Int)) ∧ w = w' := by
  have hb := pre_bounds hP
  have h4 := U8.seqLen_le (U8.first l)
  obtain ⟨b, off, rfl, hc0⟩ := h.2 0 (by omega)
  have hc : ∀ j, j < n → w.cell? ⟨b, off + j, none⟩ = some (.int .u8 ((l.getD j 0).toNat : Int)) := fun j hj => by
    obtain ⟨b', off', e, hc⟩ := h.2 j hj
    injection e with e
    injection e with e1 e2
    subst e1 e2
    exact hc
  have hl := h.1
  match l, hP, he, hb, hl, h4 with
  | [a], _, _, _, hl, _ => simp at hl; omega
  | [a, d], _, he, hb, hl, _ =>
    simp only [List.length_cons, List.length_nil] at hl
    subst hl
    have k1 := hb 1 (by omega) (by simp)
    have k0 : 192 ≤ a.toNat ∧ a.toNat ≤ 223 := by
      have he : U8.seqLen a.toNat = 2 := he
      unfold U8.seqLen at he
      repeat' split at he
      all_goals omega
    exact value_two a.toNat d.toNat b off c w (hc 0 (by omega)) (hc 1 (by omega)) k0 k1
  | [a, d, f], _, he, hb, hl, _ =>
    simp only [List.length_cons, List.length_nil] at hl
    subst hl
    have k1 := hb 1 (by omega) (by simp)
    have k2 := hb 2 (by omega) (by simp)
    have k0 : 224 ≤ a.toNat ∧ a.toNat ≤ 239 := by
      have he : U8.seqLen a.toNat = 3 := he
      unfold U8.seqLen at he
      repeat' split at he
      all_goals omega
    exact value_three a.toNat d.toNat f.toNat b off c w (hc 0 (by omega)) (hc 1 (by omega)) (hc 2 (by omega)) k0 k1 k2
  | [a, d, f, g], _, he, hb, hl, _ =>
    simp only [List.length_cons, List.length_nil] at hl
    subst hl
    have k1 := hb 1 (by omega) (by simp)
    have k2 := hb 2 (by omega) (by simp)
    have k3 := hb 3 (by omega) (by simp)
    have k0 : 240 ≤ a.toNat ∧ a.toNat ≤ 244 := by
      have he : U8.seqLen a.toNat = 4 := he
      unfold U8.seqLen at he
      repeat' split at he
      all_goals omega
    exact value_four a.toNat d.toNat f.toNat g.toNat b off c w (hc 0 (by omega)) (hc 1 (by omega)) (hc 2 (by omega)) (hc 3 (by omega)) k0 k1 k2 k3

end Go.Proofs.YtjoaaehfplcanaaDoor
