/-
  What denotedColor returns, for every slice that reads as a list of numbers that are not negative.
-/
import Derived.Test.YtdeicbciiabdfaaDoorNeg
namespace Go.Proofs.YtdeicbciiabdfaaDoor
open Go.RowKit

theorem ret_pair {a b : Int} {p : Int × Nat} (h1 : p.1 = a) (h2 : (p.2 : Int) = b) : Ending.returned (.tuple #[.int .i64 a, .int .i64 b]) = .returned (.tuple #[.int .i64 p.1, .int .i64 p.2]) := by rw [h1, h2]
theorem level_same (x : Int) (w : World) (h0 : 0 ≤ x) (h1 : x ≤ 255) : Calls Tryd.prog 21 #[.int .i64 x] w fun e w' => e = .returned (.int .i64 (At.lv x)) ∧ w' = w :=
  (level_any x w h0 h1).mono fun _ _ ⟨h, e⟩ => ⟨h, e.symm⟩
theorem Nums.at {w : World} {B b off n : Nat} {xs : List Int} (h : Nums w B (some ⟨b, off, none⟩) n xs) (j : Nat) (hj : j < n) : w.cell? ⟨b, off + j, none⟩ = some (.int .i64 (xs.getD j 0)) := by
  obtain ⟨b', off', e, _, hc⟩ := h.2 j hj
  injection e with e
  injection e with e1 e2
  subst e1 e2
  exact hc
theorem Nums.lt {w : World} {B b off n : Nat} {xs : List Int} (h : Nums w B (some ⟨b, off, none⟩) n xs) (hn : 0 < n) : b < B := by
  obtain ⟨b', off', e, hb, _⟩ := h.2 0 hn
  injection e with e
  injection e with e1 e2
  omega

set_option maxHeartbeats 2000000 in
set_option maxRecDepth 100000 in
theorem den_any (A : Option Addr) (n c B : Nat) (xs : List Int) (w : World) (hX : Nums w B A n xs) (hc : n ≤ c) (hp : At.pos xs) (hn : n ≤ 1000) :
    Calls Tryd.prog 15 #[.slice A n c] w fun e w' => e = .returned (.tuple #[.int .i64 (At.den xs).1, .int .i64 (At.den xs).2]) ∧ Below w.heap.size w w' := by
  have hl := hX.1
  obtain ⟨p, hpq⟩ : ∃ p, At.den xs = p := ⟨_, rfl⟩
  rw [hpq]
  unfold At.den at hpq
  rw [hl] at hpq
  have HP := Lib.hid hpq
  clear hpq
  by_cases h2 : 2 ≤ n
  · have z2 : (2 : Int) ≤ (n : Int) := by omega
    obtain ⟨b, off, rfl, hb, c0⟩ := hX.2 0 (by omega)
    have c1 := hX.at 1 (by omega)
    rw [Nat.add_zero] at c0
    have p1 := At.pos_getD hp 1
    by_cases h4 : 4 ≤ n
    · have z4 : (4 : Int) ≤ (n : Int) := by omega
      have z1 : (1 : Int) ≤ 4 := by omega
      have z5 : (4 : Int) ≤ (c : Int) := by omega
      have c2 := hX.at 2 (by omega)
      have c3 := hX.at 3 (by omega)
      have p2 := At.pos_getD hp 2
      have p3 := At.pos_getD hp 3
      have hne : ¬ 1 = c := by omega
      clear hX
      generalize xs.getD 0 0 = x0 at c0 HP
      generalize xs.getD 1 0 = x1 at c1 HP p1
      generalize xs.getD 2 0 = x2 at c2 HP p2
      generalize xs.getD 3 0 = x3 at c3 HP p3
      by_cases e0 : x0 = 5
      · subst e0
        by_cases e1 : x1 ≤ 255
        · go_enter Tryd.func15, Tryd.ntmps15
          go_wp2
          go_ret2
          refine ⟨ret_pair ?_ ?_, Below.refl _ w⟩ <;> rw [← HP.out, if_pos ⟨h2, by trivial, e1⟩] <;> rfl
        · go_enter Tryd.func15, Tryd.ntmps15
          go_wp2
          go_ret2
          refine ⟨ret_pair ?_ ?_, Below.refl _ w⟩ <;> rw [← HP.out, if_neg (fun h => by have := h.2.2; omega), if_neg (fun h => by have := h.2.1; omega)] <;> rfl
      · have f0 : (x0 == 5) = false := by simp [e0]
        by_cases e2 : x0 = 2
        · subst e2
          have hmx := fun cc => max3_any b (off + 1) cc x1 x2 x3 w c1 c2 c3
          obtain ⟨m, hm⟩ : ∃ m, max (max x1 x2) x3 = m := ⟨_, rfl⟩
          rw [hm] at hmx
          have HM := Lib.hid hm
          clear hm
          by_cases hm : m ≤ 255
          · have q1 : x1 ≤ 255 := by have := HM.out; omega
            have q2 : x2 ≤ 255 := by have := HM.out; omega
            have q3 : x3 ≤ 255 := by have := HM.out; omega
            have r1 := At.lv_range p1 q1
            have r2 := At.lv_range p2 q2
            have r3 := At.lv_range p3 q3
            have l1 := fun W => level_same x1 W p1 q1
            have l2 := fun W => level_same x2 W p2 q2
            have l3 := fun W => level_same x3 W p3 q3
            generalize At.lv x1 = y1 at HP r1 l1
            generalize At.lv x2 = y2 at HP r2 l2
            generalize At.lv x3 = y3 at HP r3 l3
            have w1 : IntKind.i64.wrap (36 * y1) = 36 * y1 := by rw [IntKind.wrap_i64]; omega
            have w2 : IntKind.i64.wrap (16 + 36 * y1) = 16 + 36 * y1 := by rw [IntKind.wrap_i64]; omega
            have w3 : IntKind.i64.wrap (6 * y2) = 6 * y2 := by rw [IntKind.wrap_i64]; omega
            have w4 : IntKind.i64.wrap (16 + 36 * y1 + 6 * y2) = 16 + 36 * y1 + 6 * y2 := by rw [IntKind.wrap_i64]; omega
            have w5 : IntKind.i64.wrap (16 + 36 * y1 + 6 * y2 + y3) = 16 + 36 * y1 + 6 * y2 + y3 := by rw [IntKind.wrap_i64]; omega
            go_enter Tryd.func15, Tryd.ntmps15
            go_wp2_with fail
            refine (hmx _).mono ?_
            rintro e w' ⟨rfl, rfl⟩
            go_wp2_with fail
            go_quiet (first | (go_at_call 21; (with_reducible refine Calls.quiet_of_same (l1 _))) | (go_at_call 21; (with_reducible refine Calls.quiet_of_same (l2 _))) | (go_at_call 21; (with_reducible refine Calls.quiet_of_same (l3 _))))
            go_wp2
            go_ret2
            refine ⟨ret_pair ?_ ?_, below_drewN (Below.refl _ w) _⟩ <;> rw [← HP.out, if_neg (fun h => e0 h.2.1), if_pos ⟨h4, by trivial, q1, q2, q3⟩] <;> rfl
          · go_enter Tryd.func15, Tryd.ntmps15
            go_wp2_with fail
            refine (hmx _).mono ?_
            rintro e w' ⟨rfl, rfl⟩
            go_wp2
            go_ret2
            refine ⟨ret_pair ?_ ?_, Below.refl _ w⟩ <;> rw [← HP.out, if_neg (fun h => e0 h.2.1), if_neg (fun h => by have := HM.out; omega)] <;> rfl
        · have f2 : (x0 == 2) = false := by simp [e2]
          go_enter Tryd.func15, Tryd.ntmps15
          go_wp2
          go_ret2
          refine ⟨ret_pair ?_ ?_, Below.refl _ w⟩ <;> rw [← HP.out, if_neg (fun h => e0 h.2.1), if_neg (fun h => e2 h.2.1)] <;> rfl
    · have z4 : ¬ (4 : Int) ≤ (n : Int) := by omega
      clear hX
      generalize xs.getD 0 0 = x0 at c0 HP
      generalize xs.getD 1 0 = x1 at c1 HP p1
      by_cases e0 : x0 = 5
      · subst e0
        by_cases e1 : x1 ≤ 255
        · go_enter Tryd.func15, Tryd.ntmps15
          go_wp2
          go_ret2
          refine ⟨ret_pair ?_ ?_, Below.refl _ w⟩ <;> rw [← HP.out, if_pos ⟨h2, by trivial, e1⟩] <;> rfl
        · go_enter Tryd.func15, Tryd.ntmps15
          go_wp2
          go_ret2
          refine ⟨ret_pair ?_ ?_, Below.refl _ w⟩ <;> rw [← HP.out, if_neg (fun h => by have := h.2.2; omega), if_neg (fun h => h4 h.1)] <;> rfl
      · have f0 : (x0 == 5) = false := by simp [e0]
        go_enter Tryd.func15, Tryd.ntmps15
        go_wp2
        go_ret2
        refine ⟨ret_pair ?_ ?_, Below.refl _ w⟩ <;> rw [← HP.out, if_neg (fun h => e0 h.2.1), if_neg (fun h => h4 h.1)] <;> rfl
  · have z2 : ¬ (2 : Int) ≤ (n : Int) := by omega
    have z4 : ¬ (4 : Int) ≤ (n : Int) := by omega
    have h4 : ¬ 4 ≤ n := by omega
    clear hX
    go_enter Tryd.func15, Tryd.ntmps15
    go_wp2
    go_ret2
    refine ⟨ret_pair ?_ ?_, Below.refl _ w⟩ <;> rw [← HP.out, if_neg (by omega), if_neg (by omega)] <;> rfl

end Go.Proofs.YtdeicbciiabdfaaDoor
