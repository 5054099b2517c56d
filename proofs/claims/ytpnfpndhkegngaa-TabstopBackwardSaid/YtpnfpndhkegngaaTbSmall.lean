/-
  What fine, Next and Previous return.
-/
import Derived.Test.YtpnfpndhkegngaaBools
namespace Go.Proofs.Ytpnfpndhkegngaa
open Go.RowKit Tb

set_option maxRecDepth 100000 in
theorem fine_any (A : Option Addr) (n c : Nat) (w : World) (hn : n ≤ 9223372036854775807) : Calls Try.prog 10 #[.slice A n c] w fun e w' => e = .returned (.bool (decide (n ≤ 140))) ∧ w = w' := by
  by_cases h : n ≤ 140
  · have hz : (n : Int) ≤ 140 := by omega
    rw [decide_eq_true h]
    go_enter Try.func10, Try.ntmps10
    go_wp2
    go_ret
    exact ⟨rfl, rfl⟩
  · have hz : ¬ (n : Int) ≤ 140 := by omega
    rw [decide_eq_false h]
    go_enter Try.func10, Try.ntmps10
    go_wp2
    go_ret
    exact ⟨rfl, rfl⟩

set_option maxHeartbeats 1000000 in
set_option maxRecDepth 100000 in
theorem next_any (A : Option Addr) (n c B : Nat) (l : List Bool) (col : Int) (hn : n ≤ 100000) (w : World) (hr : Nums w B A n l) :
    Calls Try.prog 12 #[.slice A n c, .int .i64 col] w fun e w' => ∃ r : Nat, e = .returned (.int .i64 (r : Int)) ∧ IsNext l col r ∧ w = w' := by
  have HL := Lib.hid hr.1
  have HR := Lib.hid hr
  clear hr
  go_enter Try.func12, Try.ntmps12
  go_wp2
  go_loopg [5, 8] (n + 1) (fun gk _ v8 wr => ∃ k : Nat, gk + k = n + 1 ∧ k ≤ n ∧ v8 = .int .i64 (k : Int) ∧ w = wr ∧ Aside (∀ i : Nat, col < (i : Int) → i < k → on l i = false))
  case atStart => exact ⟨0, by omega, Nat.zero_le _, rfl, rfl, fun i _ h => by omega⟩
  case round =>
    obtain ⟨k, hg, hkn, rfl, rfl, hA⟩ := hrel
    by_cases hlt : k < n
    · obtain ⟨g', rfl⟩ : ∃ g', gk = g' + 1 := ⟨gk - 1, by omega⟩
      have hz : (k : Int) < (n : Int) := by omega
      have hz0 : (0 : Int) ≤ (k : Int) := by omega
      by_cases hc : col < (k : Int)
      · obtain ⟨b, off, rfl, _, hcell⟩ := HR.out.2 k hlt
        obtain ⟨x, hx⟩ : ∃ x, l.getD k false = x := ⟨_, rfl⟩
        rw [hx] at hcell
        have HX := Lib.hid hx
        clear hx
        cases x with
        | true =>
          go_wp2
          go_ret
          exact ⟨k, rfl, .inl ⟨hc, HX.out, hA.out⟩, rfl⟩
        | false =>
          go_wp2
          go_roundg g'
          case measure => omega
          case rel =>
            refine ⟨k + 1, by omega, by omega, by go_num, rfl, fun i h1 h2 => ?_⟩
            rcases Nat.lt_or_ge i k with h3 | h3
            · exact hA.out i h1 h3
            · have : i = k := by omega
              rw [this]
              exact HX.out
      · go_wp2
        go_roundg g'
        case measure => omega
        case rel => exact ⟨k + 1, by omega, by omega, by go_num, rfl, fun i h1 h2 => hA.out i h1 (by omega)⟩
    · have hz : ¬ (k : Int) < (n : Int) := by omega
      have hq : k = n := by omega
      subst hq
      have hL := HL.out
      have hN : IsNext l col (k - 1) := .inr ⟨fun i h1 => by
        rcases Nat.lt_or_ge i k with h3 | h3
        · exact hA.out i h1 h3
        · exact on_ge (by omega), by rw [hL]⟩
      have HN := Lib.hid hN
      clear hN hA
      by_cases h0 : k = 0
      · subst h0
        go_wp2
        go_ret
        exact ⟨0, rfl, HN.out, rfl⟩
      · have h1 : ¬ ((k : Int) - 1 < 0) := by omega
        have h2 : ¬ ((k : Int) < 1) := by omega
        go_wp2
        go_ret
        exact ⟨k - 1, ret_int (by omega), HN.out, rfl⟩

set_option maxHeartbeats 1000000 in
set_option maxRecDepth 100000 in
theorem prev_any (A : Option Addr) (n c B : Nat) (l : List Bool) (col : Int) (hn : n ≤ 100000) (w : World) (hr : Nums w B A n l) :
    Calls Try.prog 14 #[.slice A n c, .int .i64 col] w fun e w' => ∃ r : Nat, e = .returned (.int .i64 (r : Int)) ∧ IsPrev l col r ∧ w = w' := by
  have HL := Lib.hid hr.1
  have HR := Lib.hid hr
  clear hr
  obtain ⟨M, hM, hMn, hM1, hM2⟩ : ∃ M : Int, (if (n : Int) < col then (n : Int) else col) = M ∧ M ≤ (n : Int) ∧ M ≤ col ∧ (M = col ∨ M = (n : Int)) := ⟨_, rfl, by split <;> omega, by split <;> omega, by split; exact .inr rfl; exact .inl rfl⟩
  go_enter Try.func14, Try.ntmps14
  go_wp2
  go_loopg [5, 6, 11] (n + 1) (fun gk v5 _ v11 wr => ∃ k r : Nat, gk + k = n + 1 ∧ k ≤ n ∧ ((k : Int) ≤ M ∨ k = 0) ∧ v11 = .int .i64 (k : Int) ∧ v5 = .int .i64 (r : Int) ∧ w = wr ∧ Aside (IsPrev l (k : Int) r))
  case atStart => exact ⟨0, 0, by omega, Nat.zero_le _, .inr rfl, rfl, rfl, rfl, .inr ⟨fun i h => by omega, rfl⟩⟩
  case round =>
    obtain ⟨k, r, hg, hkn, hkM, rfl, rfl, rfl, hA⟩ := hrel
    by_cases hlt : (k : Int) < M
    · obtain ⟨g', rfl⟩ : ∃ g', gk = g' + 1 := ⟨gk - 1, by omega⟩
      have hk' : k < n := by omega
      have hz : (k : Int) < (n : Int) := by omega
      have hz0 : (0 : Int) ≤ (k : Int) := by omega
      obtain ⟨b, off, rfl, _, hcell⟩ := HR.out.2 k hk'
      obtain ⟨x, hx⟩ : ∃ x, l.getD k false = x := ⟨_, rfl⟩
      rw [hx] at hcell
      have HX := Lib.hid hx
      clear hx
      cases x with
      | true =>
        go_wp2
        go_roundg g'
        case measure => omega
        case rel => exact ⟨k + 1, k, by omega, by omega, .inl (by omega), by go_num, rfl, rfl, .inl ⟨by omega, HX.out, fun i a b => by omega⟩⟩
      | false =>
        go_wp2
        go_roundg g'
        case measure => omega
        case rel =>
          refine ⟨k + 1, r, by omega, by omega, .inl (by omega), by go_num, rfl, rfl, hA.out.more (d := ((k + 1 : Nat) : Int)) (by omega) (fun i h1 h2 => ?_)⟩
          have : i = k := by omega
          rw [this]
          exact HX.out
    · have hL := HL.out
      have hP : IsPrev l col r := by
        rcases Int.lt_or_le M 0 with h0 | h0
        · have hk0 : k = 0 := by omega
          subst hk0
          rw [hA.out.first]
          exact .inr ⟨fun i h => by omega, rfl⟩
        · have hkM' : (k : Int) = M := by omega
          refine hA.out.more (by omega) (fun i h1 h2 => ?_)
          exact on_ge (by omega)
      have HP := Lib.hid hP
      clear hP hA
      go_wp2
      go_ret
      exact ⟨r, rfl, HP.out, rfl⟩

end Go.Proofs.Ytpnfpndhkegngaa
