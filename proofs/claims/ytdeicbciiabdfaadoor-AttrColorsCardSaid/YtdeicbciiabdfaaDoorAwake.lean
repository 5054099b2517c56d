/-
  Two slices that read as the same numbers are the same; two renditions compare as they are; the examples of the chapter hold: the function awake of layer 4's statements returns true.
-/
import Derived.Test.YtdeicbciiabdfaaDoorParams
import Derived.Laws.StructEq
namespace Go.Proofs.YtdeicbciiabdfaaDoor
open Go.RowKit

set_option maxHeartbeats 400000 in
set_option maxRecDepth 100000 in
/-- Two slices that read as the same numbers are the same. -/
theorem same_true (A1 A2 : Option Addr) (n c1 c2 B1 B2 : Nat) (xs : List Int) (w : World) (hn : n ≤ 100000) (h1 : Nums w B1 A1 n xs) (h2 : Nums w B2 A2 n xs) :
    Calls Tryd.prog 11 #[.slice A1 n c1, .slice A2 n c2] w fun e w' => e = .returned (.bool true) ∧ Below w.heap.size w w' := by
  have hne : ((n : Int) != (n : Int)) = false := by simp
  go_enter Tryd.func11, Tryd.ntmps11
  go_wp2
  go_loopw [5] (fun i wr => ∃ k m : Nat, k ≤ n ∧ i = .int .i64 k ∧ wr = w.drewN m) (fun i _ => n - (intOf i).toNat)
  case atStart => exact ⟨0, 0, Nat.zero_le _, rfl, rfl⟩
  case round =>
    obtain ⟨k, m, hk, rfl, rfl⟩ := hrel
    by_cases hlt : k < n
    · obtain ⟨b1, o1, rfl, hb1, hc1⟩ := h1.2 k hlt
      obtain ⟨b2, o2, rfl, hb2, hc2⟩ := h2.2 k hlt
      generalize xs.getD k 0 = x at hc1 hc2
      have hx : ((x : Int) != x) = false := by simp
      have hz : (k : Int) < (n : Int) := by omega
      have hz0 : (0 : Int) ≤ (k : Int) := by omega
      clear h1 h2 hlt
      go_wp2
      go_quiet (fail)
      go_wp2
      go_roundw
      case rel => exact ⟨k + 1, m + nq, by omega, by go_num, rfl⟩
      case measure => simp [intOf]; omega
    · have hz : ¬ (k : Int) < (n : Int) := by omega
      clear h1 h2
      go_wp2
      go_ret
      exact ⟨rfl, below_drewN (Below.refl _ w) m⟩

theorem ex_one : At.apply At.dflt [1, 38, 5, 200, 4] = ⟨200, -1, 9⟩ := by
  unfold At.apply
  rw [if_neg (by decide)]
  show At.run At.dflt [1, 38, 5, 200, 4] = _
  rw [At.run_step (by decide), At.run_put (by decide) (by decide)]
  show At.run _ [4] = _
  rw [At.run_step (by decide), At.run_nil]
  decide +kernel
theorem ex_two : At.apply At.dflt [31, 38, 5] = ⟨1, -1, 0⟩ := by
  unfold At.apply
  rw [if_neg (by decide)]
  show At.run At.dflt [31, 38, 5] = _
  rw [At.run_step (by decide), At.run_stop (by decide) (by decide)]
  decide +kernel
theorem ex_params : At.params ⟨200, -1, 9⟩ = [0, 1, 4, 38, 5, 200] := by decide +kernel
theorem ex_style : At.style 9 = 1 := by decide +kernel

set_option maxHeartbeats 1000000 in
set_option maxRecDepth 100000 in
theorem awake_any (w : World) (hT : Tb w) : Calls Tryd.prog 5 #[] w fun e w' => e = .returned (.bool true) ∧ Below w.heap.size w w' := by
  have eq1 := Tryd.stoodInHeld23
  have eq2 := Tryd.eqGuardType23
  go_enter Tryd.func5, Tryd.ntmps5
  go_wp2_with fail
  refine (default_any w).mono ?_
  rintro e w1 ⟨rfl, b1⟩
  have T1 := hT.below b1 (Nat.le_refl _)
  have o1 := Out.made w1 [1, 38, 5, 200, 4] (by decide)
  have T1' := T1.below o1.2 (Nat.le_refl _)
  have g1 := o1.gives
  have c1 := apply_any _ _ _ _ _ At.dflt _ (Nat.le_refl _) g1.1 g1.2.1 (by decide) (by decide) T1'
  rw [ex_one] at c1
  have B1 := b1.trans (o1.2.mono b1.size)
  clear o1 g1
  go_wp2_with fail
  refine c1.mono ?_
  rintro e w2 ⟨rfl, b2⟩
  have B2 := B1.trans (b2.mono B1.size)
  have T2 := T1'.below b2 (Nat.le_refl _)
  clear c1 b1 T1 T1' B1 b2
  have r3 := Rec.laid w2 ⟨200, -1, 9⟩
  have b3 : Below w2.heap.size w2 (w2.alloc (.cells #[.int .i64 200, .int .i64 (-1), .int .i64 9] 23)) := (Below.refl _ _).alloc (Nat.le_refl _) _
  have B3 := B2.trans (b3.mono B2.size)
  have T3 := T2.below b3 (Nat.le_refl _)
  obtain ⟨w3, hw3⟩ : ∃ w3, w2.alloc (.cells #[.int .i64 200, .int .i64 (-1), .int .i64 9] 23) = w3 := ⟨_, rfl⟩
  simp only at r3
  rw [hw3] at r3 b3 B3 T3
  go_wp2_with fail
  clear hw3 B2 T2 b3
  refine (default_any w3).mono ?_
  rintro e w4 ⟨rfl, b4⟩
  have r4 := r3.below b4
  have T4 := T3.below b4 (Nat.le_refl _)
  have o4 := Out.made w4 [31, 38, 5] (by decide)
  have T4' := T4.below o4.2 (Nat.le_refl _)
  have r4' := r4.below o4.2
  have g4 := o4.gives
  have c4 := apply_any _ _ _ _ _ At.dflt _ (Nat.le_refl _) g4.1 g4.2.1 (by decide) (by decide) T4'
  rw [ex_two] at c4
  have B4 := (B3.trans (b4.mono B3.size)).trans (o4.2.mono (Nat.le_trans B3.size b4.size))
  clear o4 g4 r3 r4 T3 T4 B3 b4
  go_wp2_with fail
  refine c4.mono ?_
  rintro e w5 ⟨rfl, b5⟩
  have r5 := r4'.below b5
  have T5 := T4'.below b5 (Nat.le_refl _)
  have B5 := B4.trans (b5.mono B4.size)
  clear c4 r4' T4' B4 b5
  have q6 := Rec.laid w5 ⟨1, -1, 0⟩
  have b6 : Below w5.heap.size w5 (w5.alloc (.cells #[.int .i64 1, .int .i64 (-1), .int .i64 0] 23)) := (Below.refl _ _).alloc (Nat.le_refl _) _
  have r6 := r5.below b6
  have T6 := T5.below b6 (Nat.le_refl _)
  have B6 := B5.trans (b6.mono B5.size)
  simp only at q6
  have s0 := r6.c0
  have s1 := r6.c1
  have s2 := r6.c2
  clear b6 r5 T5 B5
  go_wp2_with fail
  clear s0 s1 s2
  generalize w5.alloc (.cells #[.int .i64 1, .int .i64 (-1), .int .i64 0] 23) = w6 at q6 r6 T6 B6 ⊢
  refine (params_any ⟨200, -1, 9⟩ w6 T6 (by decide)).mono ?_
  rintro e w7 ⟨A7, n7, c7, rfl, g7⟩
  rw [ex_params] at g7
  obtain rfl : n7 = 6 := g7.length
  have r7 := r6.below g7.2.2
  have q7 := q6.below g7.2.2
  have T7 := T6.below g7.2.2 (Nat.le_refl _)
  have B7 := B6.trans (g7.2.2.mono B6.size)
  have o7 := Out.made w7 [0, 1, 4, 38, 5, 200] (by decide)
  have cE := same_true A7 _ 6 c7 6 _ _ [0, 1, 4, 38, 5, 200] _ (by decide) (g7.1.below o7.2 (Nat.le_refl _)) o7.gives.1
  have r8 := r7.below o7.2
  have q8 := q7.below o7.2
  have T8 := T7.below o7.2 (Nat.le_refl _)
  have B8 := B7.trans (o7.2.mono B7.size)
  clear r6 q6 T6 B6 g7 r7 q7 T7 B7 o7
  go_wp2_with fail
  refine cE.mono ?_
  rintro e w9 ⟨rfl, b9⟩
  have r9 := r8.below b9
  have q9 := q8.below b9
  have B9 := B8.trans (b9.mono B8.size)
  have s0 := r9.c0
  have s1 := r9.c1
  have s2 := r9.c2
  clear cE r8 q8 T8 B8 b9
  go_wp2_with fail
  have cS := style_any 200 (-1) 9 w9
  rw [ex_style] at cS
  refine cS.mono ?_
  rintro e w10 ⟨rfl, b10⟩
  have q10 := q9.below b10
  have B10 := B9.trans (b10.mono B9.size)
  have p0 := q10.c0
  have p1 := q10.c1
  have p2 := q10.c2
  clear cS r9 q9 B9 b10 s0 s1 s2
  go_wp2
  go_ret
  exact ⟨rfl, B10⟩

end Go.Proofs.YtdeicbciiabdfaaDoor
