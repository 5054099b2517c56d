/-
  What the document's own Total returns, for every slice that reads as a list of numbers.
-/
import Derived.Test.YtllkafgmacngjaaRef
import Derived.Test.YtllkafgmacngjaaTotal
namespace Go.Proofs.Ytllkafgmacngjaa
open Go.RowKit

set_option maxHeartbeats 1000000 in
set_option maxRecDepth 100000 in
theorem refTotal_any (A : Option Addr) (n c B : Nat) (xs : List Int) (w : World) (hB : B ≤ w.heap.size) (hX : Nums w B A n xs) (hbig : n ≤ 1000000) :
    Calls Try.prog 17 #[.slice A n c] w fun e w' => e = .returned (.int .i64 (Cw.total xs)) ∧ Below w.heap.size w w' := by
  go_enter Try.func17, Try.ntmps17
  go_wp2
  go_loopg [3, 4] n (fun gg s3 s4 wr => ∃ (k : Nat) (z : Int), k ≤ n ∧ n - k ≤ gg ∧ s4 = .int .i64 k ∧ s3 = .int .i64 z ∧ Aside (Below w.heap.size w wr) ∧ Aside (z = Cw.total (xs.take k)))
  case atStart => exact ⟨0, 0, Nat.zero_le _, by omega, rfl, rfl, Below.refl _ w, (by simp [Cw.total] : (0 : Int) = Cw.total (xs.take 0))⟩
  case round =>
    obtain ⟨k, z, hk, hg, rfl, rfl, BW, Z⟩ := hrel
    have hlen := hX.1
    have HL := Lib.hid hlen
    clear hlen
    by_cases hkn : k < n
    · have hz : (k : Int) < (n : Int) := by omega
      have hz0 : (0 : Int) ≤ (k : Int) := by omega
      obtain ⟨b, off, rfl, hb, hc⟩ := hX.2 k hkn
      have hc1 := (BW.out.cell (p := ⟨b, off + k, none⟩) (Nat.lt_of_lt_of_le hb hB)).trans hc
      have hbound := Cw.total_take_bounds xs k
      rw [← Z.out] at hbound
      have hstep := Lib.hid (Cw.total_take xs k (by rw [HL.out]; exact hkn))
      have hcs := Cw.wd_cases (xs.getD k 0)
      have hcall := fun w => refWidth_any (xs.getD k 0) w
      have HX := Lib.hid hX
      clear hX hc
      obtain ⟨y, hy⟩ : ∃ y, xs.getD k 0 = y := ⟨_, rfl⟩
      rw [hy] at hc1 hcs hcall hstep
      clear hy
      have hsz := BW.out.size
      have hbw : b < wr.heap.size := by omega
      rcases hcs with hy | hy | hy | hy
      · rw [hy] at hcall hstep
        clear hy
        go_wp2_with (go_at_call 12; refine (hcall _).mono ?_; rintro e w' ⟨rfl, hb'⟩)
        go_roundg (n - (k + 1))
        case measure => omega
        case rel =>
          refine ⟨k + 1, _, by omega, by omega, by go_num, rfl, BW.out.trans (hb'.mono hsz), ?_⟩
          unfold Aside
          rw [hstep.out, ← Z.out]
          omega
      · rw [hy] at hcall hstep
        clear hy
        go_wp2_with (go_at_call 12; refine (hcall _).mono ?_; rintro e w' ⟨rfl, hb'⟩)
        go_roundg (n - (k + 1))
        case measure => omega
        case rel =>
          refine ⟨k + 1, _, by omega, by omega, by go_num, rfl, BW.out.trans (hb'.mono hsz), ?_⟩
          unfold Aside
          rw [hstep.out, ← Z.out]
          omega
      all_goals
        rw [hy] at hcall hstep
        clear hy
        go_wp2_with fail
        refine (hcall _).mono ?_
        rintro e w1 ⟨rfl, b1⟩
        have hc2 := (b1.cell (p := ⟨b, off + k, none⟩) hbw).trans hc1
        clear hc1
        go_wp2_with fail
        refine (hcall _).mono ?_
        rintro e w2 ⟨rfl, b2⟩
        go_wp2
        go_roundg (n - (k + 1))
        case measure => omega
        case rel =>
          refine ⟨k + 1, _, by omega, by omega, by go_num, rfl, (BW.out.trans (b1.mono hsz)).trans (b2.mono (Nat.le_trans hsz b1.size)), ?_⟩
          unfold Aside
          rw [hstep.out, ← Z.out]
          first | rfl | omega
    · have hz : ¬ (k : Int) < (n : Int) := by omega
      clear hX
      go_wp2
      go_ret
      refine ⟨ret_int ?_, BW.out⟩
      rw [Z.out, List.take_of_length_le (by rw [HL.out]; omega)]

end Go.Proofs.Ytllkafgmacngjaa
