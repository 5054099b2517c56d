/-
  The statements on the width of a number and on the kinds of numbers return true, for every number.
-/
import Derived.Test.YtllkafgmacngjaaAwake
import Derived.Test.YtllkafgmacngjaaRef
namespace Go.Proofs.Ytllkafgmacngjaa
open Go.RowKit

set_option maxHeartbeats 400000 in
set_option maxRecDepth 100000 in
theorem width_walk (r : Int) (w : World) (_ : -2147483648 ≤ r) (_ : r ≤ 2147483647) :
    Calls Try.prog 3 #[.int .i32 r] w fun e w' => e = .returned (.bool true) ∧ Below w.heap.size w w' := by
  have h1 := fun w => width_any r w
  have h2 := fun w => refWidth_any r w
  have h3 := fun w => mark_any r w
  have h4 := fun w => refMark_any r w
  generalize Cw.wd r = z at h1 h2
  generalize Cw.hits Cw.marks r = q at h3 h4
  have e1 : (z == z) = true := by simp
  have e2 : (q == q) = true := by simp
  go_enter Try.func3, Try.ntmps3
  go_wp2_with fail
  refine (h1 w).mono ?_
  rintro e w1 ⟨rfl, b1⟩
  go_wp2_with fail
  refine (h2 w1).mono ?_
  rintro e w2 ⟨rfl, b2⟩
  go_wp2_with fail
  refine (h3 w2).mono ?_
  rintro e w3 ⟨rfl, b3⟩
  go_wp2_with fail
  refine (h4 w3).mono ?_
  rintro e w4 ⟨rfl, b4⟩
  go_wp2_with fail
  refine (awake_any w4).mono ?_
  rintro e w5 ⟨rfl, b5⟩
  go_wp2
  go_ret
  have s1 := b1.size
  have s2 := b2.size
  have s3 := b3.size
  have s4 := b4.size
  exact ⟨rfl, (((b1.trans (b2.mono (by omega))).trans (b3.mono (by omega))).trans (b4.mono (by omega))).trans (b5.mono (by omega))⟩

/-- The four kinds of numbers, with what each test of the statement finds. -/
theorem kinds (r : Int) : (Cw.wd r = -1 ∧ Cw.hits Cw.marks r = false ∧ (r < 32 ∨ (¬ r < 32 ∧ 127 ≤ r ∧ r ≤ 159))) ∨
    (Cw.wd r = 0 ∧ Cw.hits Cw.marks r = true ∧ ¬ r < 32 ∧ (¬ 127 ≤ r ∨ (127 ≤ r ∧ ¬ r ≤ 159))) ∨
    (Cw.wd r = 2 ∧ Cw.hits Cw.marks r = false ∧ ¬ r < 32 ∧ (¬ 127 ≤ r ∨ (127 ≤ r ∧ ¬ r ≤ 159))) ∨
    (Cw.wd r = 1 ∧ Cw.hits Cw.marks r = false ∧ ¬ r < 32 ∧ (¬ 127 ≤ r ∨ (127 ≤ r ∧ ¬ r ≤ 159))) := by
  have hc := Cw.ctl_iff r
  have hm : Cw.wd r = 0 ↔ Cw.hits Cw.marks r = true := Cw.wd_zero r
  have hn := Cw.wd_neg r
  rw [hc] at hn
  cases hq : Cw.hits Cw.marks r with
  | true =>
    have h0 := hm.2 hq
    refine .inr (.inl ⟨h0, rfl, ?_⟩)
    omega
  | false =>
    have h0 : ¬ Cw.wd r = 0 := by rw [hm, hq]; simp
    rcases Cw.wd_cases r with h | h | h | h
    · refine .inl ⟨h, rfl, ?_⟩
      have := hn.1 h
      omega
    · exact absurd h h0
    · refine .inr (.inr (.inr ⟨h, rfl, ?_⟩))
      omega
    · refine .inr (.inr (.inl ⟨h, rfl, ?_⟩))
      omega

set_option maxHeartbeats 2000000 in
set_option maxRecDepth 100000 in
theorem kinds_walk (r : Int) (w : World) (_ : -2147483648 ≤ r) (_ : r ≤ 2147483647) :
    Calls Try.prog 7 #[.int .i32 r] w fun e w' => e = .returned (.bool true) ∧ Below w.heap.size w w' := by
  have h1 := fun w => width_any r w
  have h3 := fun w => mark_any r w
  have hk := kinds r
  generalize Cw.wd r = z at h1 hk
  generalize Cw.hits Cw.marks r = q at h3 hk
  rcases hk with ⟨rfl, rfl, a1 | ⟨a1, a2, a3⟩⟩ | ⟨rfl, rfl, a1, a2 | ⟨a2, a3⟩⟩ | ⟨rfl, rfl, a1, a2 | ⟨a2, a3⟩⟩ | ⟨rfl, rfl, a1, a2 | ⟨a2, a3⟩⟩
  all_goals
    go_enter Try.func7, Try.ntmps7
    go_wp2_with fail
    refine (h1 w).mono ?_
    rintro e w1 ⟨rfl, b1⟩
    go_wp2_with fail
    refine (h3 w1).mono ?_
    rintro e w2 ⟨rfl, b2⟩
    go_wp2_with fail
    refine (awake_any w2).mono ?_
    rintro e w3 ⟨rfl, b3⟩
    go_wp2
    go_ret
    have s1 := b1.size
    have s2 := b2.size
    refine ⟨ret_bool ?_, (b1.trans (b2.mono (by omega))).trans (b3.mono (by omega))⟩
    first | rfl | (simp; omega)

end Go.Proofs.Ytllkafgmacngjaa
