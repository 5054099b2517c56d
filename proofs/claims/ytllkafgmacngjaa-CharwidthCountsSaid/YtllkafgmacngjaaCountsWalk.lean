/-
  The statement that counts the characters of width 1 and 2 returns true, for every slice of numbers.
-/
import Derived.Test.YtllkafgmacngjaaAwake
import Derived.Test.YtllkafgmacngjaaTotal
namespace Go.Proofs.Ytllkafgmacngjaa
open Go.RowKit

set_option maxHeartbeats 2000000 in
set_option maxRecDepth 100000 in
theorem counts_walk (A : Option Addr) (n c : Nat) (xs : List Int) (w : World) (hX : Nums w w.heap.size A n xs) (_ : A = none → n = 0 ∧ c = 0) (hn : n ≤ 140737488351232) (_ : ∀ z ∈ xs, -2147483648 ≤ z ∧ z ≤ 2147483647) :
    Calls Try.prog 9 #[.slice A n c] w fun e w' => e = .returned (.bool true) ∧ Below w.heap.size w w' := by
  by_cases hbig : 200 < n
  · have hbz : (200 : Int) < (n : Int) := by omega
    clear hX
    go_enter Try.func9, Try.ntmps9
    go_wp2_with fail
    refine (awake_any w).mono ?_
    rintro e w1 ⟨rfl, hb⟩
    go_wp2
    go_ret
    exact ⟨rfl, hb⟩
  · have hbz : ¬ (200 : Int) < (n : Int) := by omega
    go_enter Try.func9, Try.ntmps9
    go_wp2
    go_loopg [3, 12] n (fun gg s3 s12 wr => ∃ (k : Nat) (z : Int), k ≤ n ∧ n - k ≤ gg ∧ s12 = .int .i64 k ∧ s3 = .int .i64 z ∧ Aside (Below w.heap.size w wr) ∧ Aside (z = Cw.total (xs.take k)))
    case atStart => exact ⟨0, 0, Nat.zero_le _, by omega, rfl, rfl, Below.refl _ w, (by simp [Cw.total] : (0 : Int) = Cw.total (xs.take 0))⟩
    case round =>
      obtain ⟨k, z, hk, hg, rfl, rfl, BW, Z⟩ := hrel
      have hlen := hX.1
      have HL := Lib.hid hlen
      clear hlen
      have hsz := BW.out.size
      by_cases hkn : k < n
      · have hz : (k : Int) < (n : Int) := by omega
        have hz0 : (0 : Int) ≤ (k : Int) := by omega
        obtain ⟨b, off, rfl, hb, hc⟩ := hX.2 k hkn
        have hc1 := (BW.out.cell (p := ⟨b, off + k, none⟩) hb).trans hc
        have hbound := Cw.total_take_bounds xs k
        rw [← Z.out] at hbound
        have hstep := Lib.hid (Cw.total_take xs k (by rw [HL.out]; exact hkn))
        have hcs := Cw.wd_cases (xs.getD k 0)
        have hcall := width_any (xs.getD k 0) wr
        clear hX hc
        obtain ⟨y, hy⟩ : ∃ y, xs.getD k 0 = y := ⟨_, rfl⟩
        rw [hy] at hc1 hcs hcall hstep
        clear hy
        rcases hcs with hy | hy | hy | hy
        all_goals
          rw [hy] at hcall hstep
          clear hy
          go_wp2_with (go_at_call 11; refine hcall.mono ?_; rintro e w' ⟨rfl, hb'⟩)
          go_roundg (n - (k + 1))
          case measure => omega
          case rel =>
            refine ⟨k + 1, _, by omega, by omega, by go_num, rfl, BW.out.trans (hb'.mono hsz), ?_⟩
            unfold Aside
            rw [hstep.out, ← Z.out]
            first | rfl | omega
      · have hz : ¬ (k : Int) < (n : Int) := by omega
        have hzt : z = Cw.total xs := by rw [Z.out, List.take_of_length_le (by rw [HL.out]; omega)]
        have h1 := total_any A n c w.heap.size xs wr hsz (hX.below BW.out (Nat.le_refl _)) (by omega)
        rw [← hzt] at h1
        have h2 := fun w1 : World => total_any none 0 0 0 [] w1 (Nat.zero_le _) ⟨rfl, fun j hj => absurd hj (Nat.not_lt_zero _)⟩ (by decide)
        rw [show Cw.total [] = 0 from rfl] at h2
        clear hX hzt
        have e1 : (z == z) = true := by simp
        go_wp2_with fail
        refine h1.mono ?_
        rintro e w1 ⟨rfl, b1⟩
        go_wp2_with fail
        refine (h2 w1).mono ?_
        rintro e w2 ⟨rfl, b2⟩
        go_wp2_with fail
        refine (awake_any w2).mono ?_
        rintro e w3 ⟨rfl, b3⟩
        go_wp2
        go_ret
        have s1 := b1.size
        have s2 := b2.size
        exact ⟨rfl, ((BW.out.trans (b1.mono hsz)).trans (b2.mono (by omega))).trans (b3.mono (by omega))⟩

end Go.Proofs.Ytllkafgmacngjaa
