/-
  The statements of layer 9 on Next and Previous: the walks.
-/
import Derived.Test.YtpnfpndhkegngaaTbRef
namespace Go.Proofs.Ytpnfpndhkegngaa
open Go.RowKit Tb

set_option maxHeartbeats 1000000 in
set_option maxRecDepth 100000 in
theorem moves_walk (A : Option Addr) (n c : Nat) (l : List Bool) (col : Int) (w : World) (hr : Nums w w.heap.size A n l) (hn : n ≤ 9223372036854775807) :
    Calls Try.prog 3 #[.slice A n c, .int .i64 col] w fun e w' => e = .returned (.bool true) ∧ Below w.heap.size w w' := by
  have CF := Lib.hid (fine_any A n c w hn)
  have HR := Lib.hid hr
  clear hr
  by_cases hq : n ≤ 140
  · rw [decide_eq_true hq] at CF
    go_enter Try.func3, Try.ntmps3
    go_wp2_with fail
    refine CF.out.mono ?_
    rintro e w1 ⟨rfl, rfl⟩
    go_wp2_with fail
    refine CF.out.mono ?_
    rintro e w1 ⟨rfl, rfl⟩
    clear CF
    go_wp2_with fail
    refine (next_any A n c _ l col (by omega) w HR.out).mono ?_
    rintro e w1 ⟨r, rfl, hN, rfl⟩
    have HN := Lib.hid hN
    clear hN
    go_wp2_with fail
    refine (refNext_any A n c _ l col (by omega) w HR.out).mono ?_
    rintro e w1 ⟨s, rfl, hM, rfl⟩
    obtain rfl := HN.out.one hM
    clear hM HN
    go_wp2_with fail
    refine (prev_any A n c _ l col (by omega) w HR.out).mono ?_
    rintro e w1 ⟨p, rfl, hN, rfl⟩
    have HN := Lib.hid hN
    clear hN
    go_wp2_with fail
    refine (refPrev_any A n c _ l col (by omega) w HR.out).mono ?_
    rintro e w1 ⟨q, rfl, hM, rfl⟩
    obtain rfl := HN.out.one hM
    clear hM HN
    go_wp2_with fail
    refine (awake_any w).mono ?_
    rintro e w1 ⟨rfl, hB⟩
    go_wp2
    go_ret
    exact ⟨rfl, hB⟩
  · rw [decide_eq_false hq] at CF
    go_enter Try.func3, Try.ntmps3
    go_wp2_with fail
    refine CF.out.mono ?_
    rintro e w1 ⟨rfl, rfl⟩
    go_wp2_with fail
    refine (awake_any w).mono ?_
    rintro e w1 ⟨rfl, hB⟩
    go_wp2
    go_ret
    exact ⟨rfl, hB⟩

theorem Nums.some {w : World} {B : Nat} {A : Option Addr} {n : Nat} {xs : List Bool} (h : Nums w B A n xs) (hn : 0 < n) : ∃ b off, A = some ⟨b, off, none⟩ ∧ ∀ j, j < n → w.cell? ⟨b, off + j, none⟩ = some (.bool (on xs j)) := by
  obtain ⟨b, off, e, _, _⟩ := h.2 0 hn
  refine ⟨b, off, e, fun j hj => ?_⟩
  obtain ⟨b', off', e', _, hc⟩ := h.2 j hj
  rw [e] at e'
  injection e' with e'
  injection e' with e1 e2
  subst e1 e2
  exact hc

set_option maxHeartbeats 1000000 in
set_option maxRecDepth 100000 in
theorem forward_walk (A : Option Addr) (n c : Nat) (l : List Bool) (col : Int) (w : World) (hr : Nums w w.heap.size A n l) (hn : n ≤ 9223372036854775807) (h0 : 0 ≤ col) (h255 : col ≤ 255) :
    Calls Try.prog 5 #[.slice A n c, .int .u8 col] w fun e w' => e = .returned (.bool true) ∧ Below w.heap.size w w' := by
  obtain ⟨k, rfl⟩ : ∃ k : Nat, col = (k : Int) := ⟨col.toNat, by omega⟩
  have CF := Lib.hid (fine_any A n c w hn)
  have HR := Lib.hid hr
  have HL := Lib.hid hr.1
  clear hr
  by_cases hq : n ≤ 140
  · rw [decide_eq_true hq] at CF
    by_cases hk : k + 1 < n
    · have hz2 : ¬ ((n : Int) - 1 ≤ (k : Int)) := by omega
      have hz3 : (0 : Int) ≤ (n : Int) - 1 := by omega
      have hzn : (n : Int) ≤ 140 := by omega
      obtain ⟨b, off, rfl, hcells⟩ := HR.out.some (by omega)
      have HC := Lib.hid hcells
      clear hcells
      go_enter Try.func5, Try.ntmps5
      go_wp2_with fail
      refine CF.out.mono ?_
      rintro e w1 ⟨rfl, rfl⟩
      clear CF
      go_wp2_with fail
      refine (next_any _ n c _ l k (by omega) w HR.out).mono ?_
      rintro e w1 ⟨r, rfl, hN, rfl⟩
      have ha := hN.ahead (by rw [HL.out]; exact hk)
      rw [HL.out] at ha
      obtain ⟨a1, a2, a3, a4⟩ := ha
      have H4 := Lib.hid a4
      have e1 : ¬ ((r : Int) ≤ (k : Int)) := by omega
      have e2 : ¬ ((n : Int) ≤ (r : Int)) := by omega
      have e4 : (0 : Int) ≤ (r : Int) := by omega
      have e5 : (r : Int) < (n : Int) := by omega
      have hsplit : (w.cell? ⟨b, off + r, none⟩ = some (.bool true) ∧ (r : Int) < (n : Int) - 1) ∨ ¬ ((r : Int) < (n : Int) - 1) := by
        by_cases h : r + 1 < n
        · exact .inl ⟨by rw [HC.out r a2, a3 h], by omega⟩
        · exact .inr (by omega)
      clear hN a3 a4
      rcases hsplit with ⟨hcell, e3⟩ | e3
      all_goals
        go_wp2
        go_loopg [7] (r + 1) (fun gk v7 wr => ∃ j : Nat, gk + j = r + k + 2 ∧ k < j ∧ j ≤ r ∧ v7 = .int .i64 (j : Int) ∧ w = wr)
        case atStart => exact ⟨k + 1, by omega, by omega, by omega, by go_num, rfl⟩
        case round =>
          obtain ⟨j, hg, hkj, hjr, rfl, rfl⟩ := hrel
          by_cases hlt : j < r
          · obtain ⟨g', rfl⟩ : ∃ g', gk = g' + 1 := ⟨gk - 1, by omega⟩
            have hz : (j : Int) < (r : Int) := by omega
            have hz0 : (0 : Int) ≤ (j : Int) := by omega
            have hz5 : (j : Int) < (n : Int) := by omega
            have hcj := HC.out j (by omega)
            rw [H4.out j hkj hlt] at hcj
            go_wp2
            go_roundg g'
            case measure => omega
            case rel => exact ⟨j + 1, by omega, by omega, by omega, by go_num, rfl⟩
          · have hz : ¬ (j : Int) < (r : Int) := by omega
            go_wp2_with fail
            refine (next_any _ n c _ l ((n : Int) - 1) (by omega) w HR.out).mono ?_
            rintro e w1 ⟨s, rfl, hS, rfl⟩
            have hS' := IsNext.last (l := l) (by rw [HL.out]; exact hS)
            rw [HL.out] at hS'
            have hS2 : (s : Int) = (n : Int) - 1 := by omega
            rw [hS2]
            clear hS hS' hS2
            go_wp2_with fail
            refine (awake_any w).mono ?_
            rintro e w1 ⟨rfl, hB⟩
            go_wp2
            go_ret
            exact ⟨rfl, hB⟩
    · have hz2 : (n : Int) - 1 ≤ (k : Int) := by omega
      have hzn : (n : Int) ≤ 140 := by omega
      go_enter Try.func5, Try.ntmps5
      go_wp2_with fail
      refine CF.out.mono ?_
      rintro e w1 ⟨rfl, rfl⟩
      go_wp2_with fail
      refine (awake_any w).mono ?_
      rintro e w1 ⟨rfl, hB⟩
      go_wp2
      go_ret
      exact ⟨rfl, hB⟩
  · rw [decide_eq_false hq] at CF
    go_enter Try.func5, Try.ntmps5
    go_wp2_with fail
    refine CF.out.mono ?_
    rintro e w1 ⟨rfl, rfl⟩
    go_wp2_with fail
    refine (awake_any w).mono ?_
    rintro e w1 ⟨rfl, hB⟩
    go_wp2
    go_ret
    exact ⟨rfl, hB⟩

set_option maxHeartbeats 1000000 in
set_option maxRecDepth 100000 in
theorem backward_walk (A : Option Addr) (n c : Nat) (l : List Bool) (col : Int) (w : World) (hr : Nums w w.heap.size A n l) (hn : n ≤ 9223372036854775807) (h0 : 0 ≤ col) (h255 : col ≤ 255) :
    Calls Try.prog 6 #[.slice A n c, .int .u8 col] w fun e w' => e = .returned (.bool true) ∧ Below w.heap.size w w' := by
  obtain ⟨k, rfl⟩ : ∃ k : Nat, col = (k : Int) := ⟨col.toNat, by omega⟩
  have CF := Lib.hid (fine_any A n c w hn)
  have HR := Lib.hid hr
  have HL := Lib.hid hr.1
  clear hr
  by_cases hq : n ≤ 140
  · rw [decide_eq_true hq] at CF
    have hzn : (n : Int) ≤ 140 := by omega
    by_cases hk : k < n
    · have hz2 : ¬ ((n : Int) ≤ (k : Int)) := by omega
      by_cases hk0 : k = 0
      · subst hk0
        go_enter Try.func6, Try.ntmps6
        go_wp2_with fail
        refine CF.out.mono ?_
        rintro e w1 ⟨rfl, rfl⟩
        go_wp2_with fail
        refine (awake_any w).mono ?_
        rintro e w1 ⟨rfl, hB⟩
        go_wp2
        go_ret
        exact ⟨rfl, hB⟩
      · have hkz : ((k : Int) == 0) = false := by simpa using hk0
        obtain ⟨b, off, rfl, hcells⟩ := HR.out.some (by omega)
        have HC := Lib.hid hcells
        clear hcells
        go_enter Try.func6, Try.ntmps6
        go_wp2_with fail
        refine CF.out.mono ?_
        rintro e w1 ⟨rfl, rfl⟩
        clear CF
        go_wp2_with fail
        refine (prev_any _ n c _ l k (by omega) w HR.out).mono ?_
        rintro e w1 ⟨r, rfl, hN, rfl⟩
        obtain ⟨a1, a3, a4⟩ := hN.back (by omega)
        have H4 := Lib.hid a4
        have e1 : ¬ ((k : Int) ≤ (r : Int)) := by omega
        have e2 : ¬ ((r : Int) < 0) := by omega
        have e4 : (0 : Int) ≤ (r : Int) := by omega
        have e5 : (r : Int) < (n : Int) := by omega
        have hsplit : (w.cell? ⟨b, off + r, none⟩ = some (.bool true) ∧ (0 : Int) < (r : Int)) ∨ ¬ ((0 : Int) < (r : Int)) := by
          by_cases h : 0 < r
          · exact .inl ⟨by rw [HC.out r (by omega), a3 h], by omega⟩
          · exact .inr (by omega)
        clear hN a3 a4
        rcases hsplit with ⟨hcell, e3⟩ | e3
        all_goals
          go_wp2
          go_loopg [7] (k + 1) (fun gk v7 wr => ∃ j : Nat, gk + j = k + r + 2 ∧ r < j ∧ j ≤ k ∧ v7 = .int .i64 (j : Int) ∧ w = wr)
          case atStart => exact ⟨r + 1, by omega, by omega, by omega, by go_num, rfl⟩
          case round =>
            obtain ⟨j, hg, hkj, hjr, rfl, rfl⟩ := hrel
            by_cases hlt : j < k
            · obtain ⟨g', rfl⟩ : ∃ g', gk = g' + 1 := ⟨gk - 1, by omega⟩
              have hz : (j : Int) < (k : Int) := by omega
              have hz0 : (0 : Int) ≤ (j : Int) := by omega
              have hz5 : (j : Int) < (n : Int) := by omega
              have hcj := HC.out j (by omega)
              rw [H4.out j hkj hlt] at hcj
              go_wp2
              go_roundg g'
              case measure => omega
              case rel => exact ⟨j + 1, by omega, by omega, by omega, by go_num, rfl⟩
            · have hz : ¬ (j : Int) < (k : Int) := by omega
              go_wp2_with fail
              refine (prev_any _ n c _ l 0 (by omega) w HR.out).mono ?_
              rintro e w1 ⟨s, rfl, hS, rfl⟩
              obtain rfl := hS.first
              clear hS
              go_wp2_with fail
              refine (awake_any w).mono ?_
              rintro e w1 ⟨rfl, hB⟩
              go_wp2
              go_ret
              exact ⟨rfl, hB⟩
    · have hz2 : (n : Int) ≤ (k : Int) := by omega
      go_enter Try.func6, Try.ntmps6
      go_wp2_with fail
      refine CF.out.mono ?_
      rintro e w1 ⟨rfl, rfl⟩
      go_wp2_with fail
      refine (awake_any w).mono ?_
      rintro e w1 ⟨rfl, hB⟩
      go_wp2
      go_ret
      exact ⟨rfl, hB⟩
  · rw [decide_eq_false hq] at CF
    go_enter Try.func6, Try.ntmps6
    go_wp2_with fail
    refine CF.out.mono ?_
    rintro e w1 ⟨rfl, rfl⟩
    go_wp2_with fail
    refine (awake_any w).mono ?_
    rintro e w1 ⟨rfl, hB⟩
    go_wp2
    go_ret
    exact ⟨rfl, hB⟩

set_option maxHeartbeats 1000000 in
set_option maxRecDepth 100000 in
theorem inverse_walk (A : Option Addr) (n c : Nat) (l : List Bool) (col : Int) (w : World) (hr : Nums w w.heap.size A n l) (hn : n ≤ 9223372036854775807) (h0 : 0 ≤ col) (h255 : col ≤ 255) :
    Calls Try.prog 7 #[.slice A n c, .int .u8 col] w fun e w' => e = .returned (.bool true) ∧ Below w.heap.size w w' := by
  obtain ⟨k, rfl⟩ : ∃ k : Nat, col = (k : Int) := ⟨col.toNat, by omega⟩
  have CF := Lib.hid (fine_any A n c w hn)
  have HR := Lib.hid hr
  have HL := Lib.hid hr.1
  clear hr
  by_cases hq : n ≤ 140
  · rw [decide_eq_true hq] at CF
    have hzn : (n : Int) ≤ 140 := by omega
    by_cases hk : k + 1 < n
    · have hz2 : ¬ ((n : Int) - 1 ≤ (k : Int)) := by omega
      have hz0 : (0 : Int) ≤ (k : Int) := by omega
      have hz5 : (k : Int) < (n : Int) := by omega
      obtain ⟨b, off, rfl, hcells⟩ := HR.out.some (by omega)
      have hc := hcells k (by omega)
      clear hcells
      obtain ⟨x, hx⟩ : ∃ x, on l k = x := ⟨_, rfl⟩
      rw [hx] at hc
      have HX := Lib.hid hx
      clear hx
      go_enter Try.func7, Try.ntmps7
      go_wp2_with fail
      refine CF.out.mono ?_
      rintro e w1 ⟨rfl, rfl⟩
      clear CF
      go_wp2_with fail
      refine (next_any _ n c _ l k (by omega) w HR.out).mono ?_
      rintro e w1 ⟨r, rfl, hN, rfl⟩
      have HN := Lib.hid hN
      clear hN
      go_wp2_with fail
      refine (prev_any _ n c _ l r (by omega) w HR.out).mono ?_
      rintro e w1 ⟨s, rfl, hS, rfl⟩
      cases x with
      | true =>
        obtain rfl := back_on HN.out (by rw [HL.out]; exact hk) HX.out hS
        clear hS HN
        go_wp2_with fail
        refine (awake_any w).mono ?_
        rintro e w1 ⟨rfl, hB⟩
        go_wp2
        go_ret
        exact ⟨rfl, hB⟩
      | false =>
        have HS := Lib.hid hS
        clear hS
        go_wp2_with fail
        refine (prev_any _ n c _ l k (by omega) w HR.out).mono ?_
        rintro e w1 ⟨q, rfl, hQ, rfl⟩
        obtain rfl := back_off HN.out (by rw [HL.out]; exact hk) HX.out HS.out hQ
        clear hQ HS HN
        go_wp2_with fail
        refine (awake_any w).mono ?_
        rintro e w1 ⟨rfl, hB⟩
        go_wp2
        go_ret
        exact ⟨rfl, hB⟩
    · have hz2 : (n : Int) - 1 ≤ (k : Int) := by omega
      go_enter Try.func7, Try.ntmps7
      go_wp2_with fail
      refine CF.out.mono ?_
      rintro e w1 ⟨rfl, rfl⟩
      go_wp2_with fail
      refine (awake_any w).mono ?_
      rintro e w1 ⟨rfl, hB⟩
      go_wp2
      go_ret
      exact ⟨rfl, hB⟩
  · rw [decide_eq_false hq] at CF
    go_enter Try.func7, Try.ntmps7
    go_wp2_with fail
    refine CF.out.mono ?_
    rintro e w1 ⟨rfl, rfl⟩
    go_wp2_with fail
    refine (awake_any w).mono ?_
    rintro e w1 ⟨rfl, hB⟩
    go_wp2
    go_ret
    exact ⟨rfl, hB⟩

end Go.Proofs.Ytpnfpndhkegngaa
