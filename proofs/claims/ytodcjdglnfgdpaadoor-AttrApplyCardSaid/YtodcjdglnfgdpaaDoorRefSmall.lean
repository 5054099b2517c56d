/-
  What the small functions of the document's own answers return: Default, Right, code, with, at, color, Style.
-/
import Derived.Test.YtodcjdglnfgdpaaDoorKe
namespace Go.Proofs.YtodcjdglnfgdpaaDoor
open Go.RowKit

set_option maxRecDepth 100000 in
theorem refDefault_any (w : World) : Calls Tryd.prog 22 #[] w fun e w' => e = .returned (.agg #[.int .i64 (-1), .int .i64 (-1), .int .i64 0]) ∧ Below w.heap.size w w' := by
  go_enter Tryd.func22, Tryd.ntmps22
  go_wp2
  refine bodyPost_ret (v := .agg #[.int .i64 (-1), .int .i64 (-1), .int .i64 0]) (by simp [results, Tryd.results22, go_sem]) rfl ⟨rfl, ?_⟩
  exact (Below.refl _ w).alloc (Nat.le_refl _) _

set_option maxHeartbeats 1000000 in
set_option maxRecDepth 100000 in
theorem right_any (a : At.R) (w : World) : Calls Tryd.prog 11 #[av a] w fun e w' => e = .returned (.int .i64 (if At.ok a then 1 else 0)) ∧ Below w.heap.size w w' := by
  obtain ⟨f, b, g⟩ := a
  obtain ⟨z, hz⟩ : ∃ z : Int, (if At.ok ⟨f, b, g⟩ then 1 else 0) = z := ⟨_, rfl⟩
  rw [hz]
  have HZ := Lib.hid hz
  clear hz
  by_cases a1 : f < -1
  · go_enter Tryd.func11, Tryd.ntmps11
    go_wp2
    go_ret
    exact ⟨ret_int (by rw [← HZ.out, if_neg (fun h => by have h1 := h.1; have h2 := h.2.1; have h3 := h.2.2; simp only at h1 h2 h3; omega)]), (Below.refl _ w).alloc (Nat.le_refl _) _⟩
  · by_cases a2 : 255 < f
    · go_enter Tryd.func11, Tryd.ntmps11
      go_wp2
      go_ret
      exact ⟨ret_int (by rw [← HZ.out, if_neg (fun h => by have h1 := h.1; have h2 := h.2.1; have h3 := h.2.2; simp only at h1 h2 h3; omega)]), (Below.refl _ w).alloc (Nat.le_refl _) _⟩
    · by_cases a3 : b < -1
      · go_enter Tryd.func11, Tryd.ntmps11
        go_wp2
        go_ret
        exact ⟨ret_int (by rw [← HZ.out, if_neg (fun h => by have h1 := h.1; have h2 := h.2.1; have h3 := h.2.2; simp only at h1 h2 h3; omega)]), (Below.refl _ w).alloc (Nat.le_refl _) _⟩
      · by_cases a4 : 255 < b
        · go_enter Tryd.func11, Tryd.ntmps11
          go_wp2
          go_ret
          exact ⟨ret_int (by rw [← HZ.out, if_neg (fun h => by have h1 := h.1; have h2 := h.2.1; have h3 := h.2.2; simp only at h1 h2 h3; omega)]), (Below.refl _ w).alloc (Nat.le_refl _) _⟩
        · by_cases a5 : g < 0
          · go_enter Tryd.func11, Tryd.ntmps11
            go_wp2
            go_ret
            exact ⟨ret_int (by rw [← HZ.out, if_neg (fun h => by have h1 := h.1; have h2 := h.2.1; have h3 := h.2.2; simp only at h1 h2 h3; omega)]), (Below.refl _ w).alloc (Nat.le_refl _) _⟩
          · by_cases a6 : 255 < g
            · go_enter Tryd.func11, Tryd.ntmps11
              go_wp2
              go_ret
              exact ⟨ret_int (by rw [← HZ.out, if_neg (fun h => by have h1 := h.1; have h2 := h.2.1; have h3 := h.2.2; simp only at h1 h2 h3; omega)]), (Below.refl _ w).alloc (Nat.le_refl _) _⟩
            · go_enter Tryd.func11, Tryd.ntmps11
              go_wp2
              go_ret
              exact ⟨ret_int (by rw [← HZ.out, if_pos ⟨⟨by simp only; omega, by simp only; omega⟩, ⟨by simp only; omega, by simp only; omega⟩, by simp only; omega, by simp only; omega⟩]), (Below.refl _ w).alloc (Nat.le_refl _) _⟩

/-- The number that sets the flag i. -/
theorem code_any (i : Nat) (hi : i < 8) (w : World) : Calls Tryd.prog 34 #[.int .i64 (i : Int)] w fun e w' => e = .returned (.int .i64 (At.tb.getD i (0, 0, 0)).2.1) ∧ w = w' := by
  by_cases h : i < 5
  · have hz : (i : Int) < 5 := by omega
    go_enter Tryd.func34, Tryd.ntmps34
    go_wp2
    go_ret
    refine ⟨ret_int ?_, rfl⟩
    obtain rfl | rfl | rfl | rfl | rfl : i = 0 ∨ i = 1 ∨ i = 2 ∨ i = 3 ∨ i = 4 := by omega
    all_goals rfl
  · have hz : ¬ (i : Int) < 5 := by omega
    go_enter Tryd.func34, Tryd.ntmps34
    go_wp2
    go_ret
    refine ⟨ret_int ?_, rfl⟩
    obtain rfl | rfl | rfl : i = 5 ∨ i = 6 ∨ i = 7 := by omega
    all_goals rfl

theorem with_set : ∀ (x : Fin 256) (i : Fin 8), (if ((x : Nat) : Int) / (2 : Int) ^ (i : Nat) % 2 = 1 then ((x : Nat) : Int) else ((x : Nat) : Int) + (2 : Int) ^ (i : Nat)) = bits .or .i64 ((x : Nat) : Int) (At.tb.getD i (0, 0, 0)).1 := by decide +kernel
theorem with_clear : ∀ (x : Fin 256) (i : Fin 8), (if ((x : Nat) : Int) / (2 : Int) ^ (i : Nat) % 2 = 1 then ((x : Nat) : Int) - (2 : Int) ^ (i : Nat) else ((x : Nat) : Int)) = bits .andNot .i64 ((x : Nat) : Int) (At.tb.getD i (0, 0, 0)).1 := by decide +kernel
theorem pow_small (i : Nat) (hi : i ≤ 8) : 1 ≤ (2 : Int) ^ i ∧ (2 : Int) ^ i ≤ 256 := by
  obtain rfl | rfl | rfl | rfl | rfl | rfl | rfl | rfl | rfl : i = 0 ∨ i = 1 ∨ i = 2 ∨ i = 3 ∨ i = 4 ∨ i = 5 ∨ i = 6 ∨ i = 7 ∨ i = 8 := by omega
  all_goals decide

set_option maxHeartbeats 1000000 in
set_option maxRecDepth 100000 in
theorem with_any (g : Int) (i : Nat) (s : Bool) (w : World) (hg : 0 ≤ g ∧ g ≤ 255) (hi : i < 8) :
    Calls Tryd.prog 39 #[.int .i64 g, .int .i64 (i : Int), .bool s] w fun e w' => e = .returned (.int .i64 (if s then bits .or .i64 g (At.tb.getD i (0, 0, 0)).1 else bits .andNot .i64 g (At.tb.getD i (0, 0, 0)).1)) ∧ w = w' := by
  obtain ⟨x, hx⟩ := At.fin_of hg
  have e1 := with_set x ⟨i, hi⟩
  have e2 := with_clear x ⟨i, hi⟩
  rw [← hx] at e1 e2
  have E1 := Lib.hid e1
  have E2 := Lib.hid e2
  obtain ⟨g0, g1⟩ := hg
  clear e1 e2 hx
  go_enter Tryd.func39, Tryd.ntmps39
  go_wp2
  go_loopg [7, 8] i (fun gg s7 s8 wr => ∃ (k : Nat) (z : Int), k ≤ i ∧ i - k ≤ gg ∧ s8 = .int .i64 k ∧ s7 = .int .i64 z ∧ wr = w ∧ Aside (z = (2 : Int) ^ k))
  case atStart => exact ⟨0, 1, Nat.zero_le _, by omega, rfl, rfl, rfl, (rfl : (1 : Int) = (2 : Int) ^ 0)⟩
  case round =>
    obtain ⟨k, z, hk, hgg, rfl, rfl, rfl, Z⟩ := hrel
    have hp := pow_small k (by omega)
    rw [← Z.out] at hp
    obtain ⟨p0, p1⟩ := hp
    by_cases hki : k < i
    · have hz : (k : Int) < (i : Int) := by omega
      go_wp2
      go_roundg (i - (k + 1))
      case measure => omega
      case rel =>
        refine ⟨k + 1, _, by omega, by omega, by go_num, rfl, rfl, ?_⟩
        unfold Aside
        rw [Z.out, Int.pow_succ]
    · have hz : ¬ (k : Int) < (i : Int) := by omega
      obtain rfl : k = i := by omega
      rw [← Z.out] at E1 E2
      have zne : ¬ z = 0 := by omega
      have hd : g.tdiv z = g / z := Int.tdiv_eq_ediv_of_nonneg g0
      obtain ⟨y, hy⟩ : ∃ y, g / z = y := ⟨_, rfl⟩
      have y0 : 0 ≤ y := by rw [← hy]; exact Int.ediv_nonneg g0 (by omega)
      have y1 : y ≤ 255 := by
        rw [← hy]
        exact Int.le_trans (Int.ediv_le_self z g0) g1
      rw [hy] at hd E1 E2
      have wy : IntKind.i64.wrap y = y := by rw [IntKind.wrap_i64]; omega
      have hm : y.tmod 2 = y % 2 := Int.tmod_eq_emod_of_nonneg y0
      clear hy
      by_cases hq : y % 2 = 1
      · have q1 : (y % 2 == 1) = true := by simp [hq]
        rw [if_pos hq] at E1 E2
        clear hq
        cases s
        · go_wp2
          go_ret
          exact ⟨ret_int (by have h := E2.out; simpa using h), rfl⟩
        · go_wp2
          go_ret
          exact ⟨ret_int (by have h := E1.out; simpa using h), rfl⟩
      · have q1 : (y % 2 == 1) = false := by simp [hq]
        rw [if_neg hq] at E1 E2
        clear hq
        cases s
        · go_wp2
          go_ret
          exact ⟨ret_int (by have h := E2.out; simpa using h), rfl⟩
        · go_wp2
          go_ret
          exact ⟨ret_int (by have h := E1.out; simpa using h), rfl⟩

theorem ref_style : ∀ x : Fin 256, (if ((x : Nat) : Int) / 64 % 2 = 1 then 3 else if ((x : Nat) : Int) / 32 % 2 = 1 then 2 else if ((x : Nat) : Int) % 2 = 1 ∨ ((x : Nat) : Int) / 4 % 8 > 0 then 1 else 0) = At.style ((x : Nat) : Int) := by decide +kernel
set_option maxHeartbeats 1000000 in
set_option maxRecDepth 100000 in
theorem refStyle_any (f b g : Int) (w : World) (hg : 0 ≤ g ∧ g ≤ 255) : Calls Tryd.prog 20 #[.agg #[.int .i64 f, .int .i64 b, .int .i64 g]] w fun e w' => e = .returned (.int .i64 (At.style g)) ∧ Below w.heap.size w w' := by
  obtain ⟨x, hx⟩ := At.fin_of hg
  have e1 := ref_style x
  rw [← hx] at e1
  obtain ⟨v, hv⟩ : ∃ v, At.style g = v := ⟨_, rfl⟩
  rw [hv] at e1 ⊢
  clear hv hx
  have E1 := Lib.hid e1
  clear e1
  obtain ⟨g0, g1⟩ := hg
  have d1 : g.tdiv 64 = g / 64 := Int.tdiv_eq_ediv_of_nonneg g0
  have d2 : g.tdiv 32 = g / 32 := Int.tdiv_eq_ediv_of_nonneg g0
  have d3 : g.tdiv 4 = g / 4 := Int.tdiv_eq_ediv_of_nonneg g0
  have m0 : g.tmod 2 = g % 2 := Int.tmod_eq_emod_of_nonneg g0
  have m1 : (g / 64).tmod 2 = g / 64 % 2 := Int.tmod_eq_emod_of_nonneg (by omega)
  have m2 : (g / 32).tmod 2 = g / 32 % 2 := Int.tmod_eq_emod_of_nonneg (by omega)
  have m3 : (g / 4).tmod 8 = g / 4 % 8 := Int.tmod_eq_emod_of_nonneg (by omega)
  by_cases a1 : g / 64 % 2 = 1
  · have q1 : (g / 64 % 2 == 1) = true := by simp [a1]
    rw [if_pos a1] at E1
    clear a1
    go_enter Tryd.func20, Tryd.ntmps20
    go_wp2
    go_ret
    exact ⟨ret_int E1.out, (Below.refl _ w).alloc (Nat.le_refl _) _⟩
  · have q1 : (g / 64 % 2 == 1) = false := by simp [a1]
    rw [if_neg a1] at E1
    clear a1
    by_cases a2 : g / 32 % 2 = 1
    · have q2 : (g / 32 % 2 == 1) = true := by simp [a2]
      rw [if_pos a2] at E1
      clear a2
      go_enter Tryd.func20, Tryd.ntmps20
      go_wp2
      go_ret
      exact ⟨ret_int E1.out, (Below.refl _ w).alloc (Nat.le_refl _) _⟩
    · have q2 : (g / 32 % 2 == 1) = false := by simp [a2]
      rw [if_neg a2] at E1
      clear a2
      by_cases a3 : g % 2 = 1
      · have q3 : (g % 2 == 1) = true := by simp [a3]
        rw [if_pos (.inl a3)] at E1
        clear a3
        go_enter Tryd.func20, Tryd.ntmps20
        go_wp2
        go_ret
        exact ⟨ret_int E1.out, (Below.refl _ w).alloc (Nat.le_refl _) _⟩
      · have q3 : (g % 2 == 1) = false := by simp [a3]
        by_cases a4 : 0 < g / 4 % 8
        · rw [if_pos (.inr a4)] at E1
          clear a3
          go_enter Tryd.func20, Tryd.ntmps20
          go_wp2
          go_ret
          exact ⟨ret_int E1.out, (Below.refl _ w).alloc (Nat.le_refl _) _⟩
        · rw [if_neg (fun h => h.elim a3 a4)] at E1
          have q4 : decide (0 < g / 4 % 8) = false := by simp; omega
          clear a3
          go_enter Tryd.func20, Tryd.ntmps20
          go_wp2
          go_ret
          exact ⟨ret_int E1.out, (Below.refl _ w).alloc (Nat.le_refl _) _⟩

end Go.Proofs.YtodcjdglnfgdpaaDoor
