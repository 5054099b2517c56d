/-
  Whether a number of a slice is above or below a bound; what exceedsLimits and haveBody of csiparam return.
-/
import Derived.Test.YtihfjkjbeeoanaaDoorCsSmall
namespace Go.Proofs.YtihfjkjbeeoanaaDoor.Ci
open Go.RowKit Go.Shelf

set_option maxRecDepth 100000 in
theorem predG_any (z : Int) (w : World) : Calls Tryd.prog 55 #[.int .i64 z] w fun e w' => e = .returned (.bool (decide (9999 < z))) ∧ w = w' := by
  go_enter Tryd.func55, Tryd.ntmps55
  go_wp2
  go_ret
  exact ⟨rfl, rfl⟩

set_option maxHeartbeats 1000000 in
set_option maxRecDepth 100000 in
theorem indexG_any (A : Option Addr) (n c B : Nat) (xs : List Int) (w : World) (hX : Nums w B A n xs) (hbig : n ≤ 9223372036854775807) :
    Calls Tryd.prog 62 #[.slice A n c, .func (.func 55) #[] #[]] w
      fun e w' => (∃ z : Int, e = .returned (.int .i64 z) ∧ decide (0 ≤ z) = xs.any fun z => decide (9999 < z)) ∧ w = w' := by
  go_enter Tryd.func62, Tryd.ntmps62
  go_wp2
  go_loopg [5, 8] n (fun gg _ s8 wr => ∃ k : Nat, k ≤ n ∧ n - k ≤ gg ∧ s8 = .int .i64 k ∧ wr = w ∧ Aside (∀ j, j < k → (fun z : Int => decide (9999 < z)) (xs.getD j 0) = false))
  case atStart => exact ⟨0, Nat.zero_le _, by omega, rfl, rfl, fun j hj => absurd hj (Nat.not_lt_zero _)⟩
  case round =>
    obtain ⟨k, hk, hg, rfl, rfl, A'⟩ := hrel
    have hlen := hX.1
    have HL := Lib.hid hlen
    clear hlen
    by_cases hkn : k < n
    · have hz : (k : Int) < (n : Int) := by omega
      have hz0 : (0 : Int) ≤ (k : Int) := by omega
      obtain ⟨b, off, rfl, hb, hc⟩ := hX.2 k hkn
      have hcall := predG_any (xs.getD k 0) wr
      have HX := Lib.hid hX
      clear hX
      obtain ⟨z, hy⟩ : ∃ y, xs.getD k 0 = y := ⟨_, rfl⟩
      rw [hy] at hc hcall
      have HY := Lib.hid hy
      clear hy
      cases hq : decide (9999 < z) with
      | true =>
        rw [hq] at hcall
        have HQ := Lib.hid hq
        clear hq
        go_wp2_with fail
        refine hcall.mono ?_
        rintro e w' ⟨rfl, rfl⟩
        go_wp2
        go_ret
        refine ⟨⟨_, rfl, ?_⟩, rfl⟩
        have hf : (xs.any fun z => decide (9999 < z)) = true := by
          rw [List.any_eq_true]
          have hkx : k < xs.length := by rw [HL.out]; exact hkn
          refine ⟨xs[k], List.getElem_mem hkx, ?_⟩
          have e : xs[k] = z := by rw [← HY.out]; simp [hkx]
          rw [e, HQ.out]
        rw [hf]
        simp
      | false =>
        rw [hq] at hcall
        have HQ := Lib.hid hq
        clear hq
        go_wp2_with fail
        refine hcall.mono ?_
        rintro e w' ⟨rfl, rfl⟩
        go_wp2
        go_roundg (n - (k + 1))
        case measure => omega
        case rel =>
          refine ⟨k + 1, by omega, by omega, by go_num, rfl, (show Aside _ from fun j hj => ?_)⟩
          by_cases e : j = k
          · subst e
            rw [HY.out]; exact HQ.out
          · exact A'.out j (by omega)
    · have hz : ¬ (k : Int) < (n : Int) := by omega
      have HX := Lib.hid hX
      clear hX
      go_wp2
      go_ret
      refine ⟨⟨_, rfl, ?_⟩, rfl⟩
      have hf : (xs.any fun z => decide (9999 < z)) = false := by
        rw [List.any_eq_false]
        intro z hz'
        obtain ⟨j, hj, rfl⟩ := List.mem_iff_getElem.1 hz'
        have := A'.out j (by rw [HL.out] at hj; omega)
        simpa [hj] using this
      rw [hf]
      rfl

set_option maxHeartbeats 400000 in
set_option maxRecDepth 100000 in
theorem containsG_any (A : Option Addr) (n c B : Nat) (xs : List Int) (w : World) (hX : Nums w B A n xs) (hbig : n ≤ 9223372036854775807) :
    Calls Tryd.prog 54 #[.slice A n c, .func (.func 55) #[] #[]] w
      fun e w' => e = .returned (.bool (xs.any fun z => decide (9999 < z))) ∧ w = w' := by
  have hcall := indexG_any A n c B xs w hX hbig
  generalize (xs.any fun z => decide (9999 < z)) = q at hcall ⊢
  clear hX
  go_enter Tryd.func54, Tryd.ntmps54
  go_wp2_with fail
  refine hcall.mono ?_
  rintro e w' ⟨⟨z, rfl, hz⟩, rfl⟩
  have HZ := Lib.hid hz
  clear hz
  go_wp2
  all_goals
    go_ret
    exact ⟨ret_bool HZ.out, rfl⟩

set_option maxHeartbeats 400000 in
set_option maxRecDepth 100000 in
theorem exceeds_any (A : Option Addr) (n c B : Nat) (xs : List Int) (i : ByteArray) (w : World) (hX : Nums w B A n xs) (hbig : n ≤ 9223372036854775807) (hi : i.size ≤ 9223372036854775807) :
    Calls Tryd.prog 49 #[.slice A n c, .string i] w fun e w' => e = .returned (.bool (Cp.over xs i.data.toList)) ∧ w = w' := by
  have hcall := Lib.hid (containsG_any A n c B xs w hX hbig)
  obtain ⟨R, hR⟩ : ∃ R, Cp.over xs i.data.toList = R := ⟨_, rfl⟩
  rw [hR]
  unfold Cp.over at hR
  rw [hX.1, ← Lib.size_eq] at hR
  clear hX
  by_cases h1 : 16 < n
  · have h1z : (16 : Int) < (n : Int) := by omega
    rw [decide_eq_true h1] at hR
    have HR := Lib.hid hR
    clear hR
    go_enter Tryd.func49, Tryd.ntmps49
    go_wp2
    go_ret
    exact ⟨ret_bool (by rw [← HR.out]; rfl), rfl⟩
  · have h1z : ¬ (16 : Int) < (n : Int) := by omega
    rw [decide_eq_false h1] at hR
    by_cases h2 : 2 < i.size
    · have h2z : (2 : Int) < (i.size : Int) := by omega
      rw [decide_eq_true h2] at hR
      have HR := Lib.hid hR
      clear hR
      go_enter Tryd.func49, Tryd.ntmps49
      go_wp2
      go_ret
      exact ⟨ret_bool (by rw [← HR.out]; rfl), rfl⟩
    · have h2z : ¬ (2 : Int) < (i.size : Int) := by omega
      rw [decide_eq_false h2] at hR
      have HR := Lib.hid hR
      clear hR
      go_enter Tryd.func49, Tryd.ntmps49
      go_wp2_with fail
      refine hcall.out.mono ?_
      rintro e w' ⟨rfl, rfl⟩
      have hq := HR.out
      simp only [Bool.false_or] at hq
      rw [hq]
      go_wp2
      go_ret
      exact ⟨rfl, rfl⟩

end Go.Proofs.YtihfjkjbeeoanaaDoor.Ci
