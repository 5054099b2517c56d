/-
  The loops of attr over the table of the flags: what flagsAfter and allFlags return; Check and Style.
-/
import Derived.Test.YtdeicbciiabdfaaDoorFun
namespace Go.Proofs.YtdeicbciiabdfaaDoor
open Go.RowKit

set_option maxHeartbeats 2000000 in
set_option maxRecDepth 100000 in
theorem flagsAfter_any (g n : Int) (w : World) (hT : Tb w) :
    Calls Tryd.prog 16 #[.int .i64 g, .int .i64 n] w fun e w' => e = .returned (.int .i64 (At.fl g n)) ∧ Below w.heap.size w w' := by
  obtain ⟨tt, fr, hg1⟩ := hT
  have hi0 := tcs_at
  have hs : tcs.size = 24 := rfl
  generalize tcs = tc at hg1 hi0 hs
  go_enter Tryd.func16, Tryd.ntmps16
  go_wp2_with (refine wpList_load_row rfl 44 _ rfl 0 rfl tt _ fr _ hg1 Tryd.underlying44 rfl (by rw [hs]; kernel_rfl) ?_)
  clear hg1 hs
  have HI := Lib.hid hi0
  clear hi0
  go_loopg [0, 6, 8] 8 (fun gg s0 _ s8 wr => ∃ (k : Nat) (z : Int), k ≤ 8 ∧ 8 - k ≤ gg ∧ s8 = .int .i64 k ∧ s0 = .int .i64 z ∧ Aside (Below w.heap.size w wr) ∧ Aside (z = (At.tb.take k).foldl (At.up1 n) g))
  case atStart => exact ⟨0, g, by omega, by omega, rfl, rfl, Below.refl _ w, (rfl : g = (At.tb.take 0).foldl (At.up1 n) g)⟩
  case round =>
    obtain ⟨k, z, hk, hg, rfl, rfl, BW, Z⟩ := hrel
    by_cases hk8 : k < 8
    · have hz : (k : Int) < 8 := by omega
      have hz0 : (0 : Int) ≤ (k : Int) := by omega
      have hi := HI.out k hk8
      have hst := Lib.hid (At.fold_take n g k hk8)
      obtain ⟨y, hy⟩ : ∃ y, At.tb.getD k (0, 0, 0) = y := ⟨_, rfl⟩
      rw [hy] at hi hst
      clear hy
      obtain ⟨a, b, c⟩ := y
      have hsz := BW.out.size
      by_cases h1 : n = b
      · have e1 : (n == b) = true := by simp [h1]
        have H1 := Lib.hid h1
        clear h1
        go_wp2
        go_roundg (8 - (k + 1))
        case measure => omega
        case rel =>
          refine ⟨k + 1, _, by omega, by omega, by go_num, rfl, BW.out.trans (((Below.refl _ wr).alloc (Nat.le_refl _) _).mono hsz), ?_⟩
          unfold Aside
          rw [hst.out, ← Z.out, At.up1, if_pos H1.out]
      · by_cases h2 : n = c
        · have e1 : (n == b) = false := by simp [h1]
          have e2 : (n == c) = true := by simp [h2]
          have H1 := Lib.hid h1
          have H2 := Lib.hid h2
          clear h1 h2
          go_wp2
          go_roundg (8 - (k + 1))
          case measure => omega
          case rel =>
            refine ⟨k + 1, _, by omega, by omega, by go_num, rfl, BW.out.trans (((Below.refl _ wr).alloc (Nat.le_refl _) _).mono hsz), ?_⟩
            unfold Aside
            rw [hst.out, ← Z.out, At.up1, if_neg H1.out, if_pos H2.out]
        · have e1 : (n == b) = false := by simp [h1]
          have e2 : (n == c) = false := by simp [h2]
          have H1 := Lib.hid h1
          have H2 := Lib.hid h2
          clear h1 h2
          go_wp2
          go_roundg (8 - (k + 1))
          case measure => omega
          case rel =>
            refine ⟨k + 1, _, by omega, by omega, by go_num, rfl, BW.out.trans (((Below.refl _ wr).alloc (Nat.le_refl _) _).mono hsz), ?_⟩
            unfold Aside
            rw [hst.out, ← Z.out, At.up1, if_neg H1.out, if_neg H2.out]
    · have hz : ¬ (k : Int) < 8 := by omega
      obtain rfl : k = 8 := by omega
      go_wp2
      go_ret
      exact ⟨ret_int Z.out, BW.out⟩

set_option maxHeartbeats 2000000 in
set_option maxRecDepth 100000 in
theorem allFlags_any (w : World) (hT : Tb w) :
    Calls Tryd.prog 9 #[] w fun e w' => e = .returned (.int .i64 255) ∧ Below w.heap.size w w' := by
  obtain ⟨tt, fr, hg1⟩ := hT
  have hi0 := tcs_at
  have hs : tcs.size = 24 := rfl
  generalize tcs = tc at hg1 hi0 hs
  go_enter Tryd.func9, Tryd.ntmps9
  go_wp2_with (refine wpList_load_row rfl 44 _ rfl 0 rfl tt _ fr _ hg1 Tryd.underlying44 rfl (by rw [hs]; kernel_rfl) ?_)
  clear hg1 hs
  have HI := Lib.hid hi0
  clear hi0
  go_loopg [1, 3, 5] 8 (fun gg s1 _ s5 wr => ∃ (k : Nat) (z : Int), k ≤ 8 ∧ 8 - k ≤ gg ∧ s5 = .int .i64 k ∧ s1 = .int .i64 z ∧ Aside (Below w.heap.size w wr) ∧ Aside (z = At.sumT k))
  case atStart => exact ⟨0, 0, by omega, by omega, rfl, rfl, Below.refl _ w, (rfl : (0 : Int) = At.sumT 0)⟩
  case round =>
    obtain ⟨k, z, hk, hg, rfl, rfl, BW, Z⟩ := hrel
    have hsz := BW.out.size
    by_cases hk8 : k < 8
    · have hz : (k : Int) < 8 := by omega
      have hz0 : (0 : Int) ≤ (k : Int) := by omega
      have hi := HI.out k hk8
      have hst := Lib.hid (At.sumT_step k hk8)
      have hr := At.sumT_range k hk8
      rw [← Z.out] at hr
      obtain ⟨y, hy⟩ : ∃ y, At.tb.getD k (0, 0, 0) = y := ⟨_, rfl⟩
      rw [hy] at hi hst hr
      clear hy
      obtain ⟨a, b, c⟩ := y
      obtain ⟨r1, r2, r3, r4⟩ := hr
      go_wp2
      go_roundg (8 - (k + 1))
      case measure => omega
      case rel =>
        refine ⟨k + 1, _, by omega, by omega, by go_num, rfl, BW.out.trans (((Below.refl _ wr).alloc (Nat.le_refl _) _).mono hsz), ?_⟩
        unfold Aside
        rw [hst.out, ← Z.out]
    · have hz : ¬ (k : Int) < 8 := by omega
      obtain rfl : k = 8 := by omega
      go_wp2
      go_ret
      exact ⟨ret_int Z.out, BW.out⟩

end Go.Proofs.YtdeicbciiabdfaaDoor
