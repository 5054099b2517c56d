/-
  The statement on the blocks of characters returns true, for every number.
-/
import Derived.Test.YtllkafgmacngjaaAwake
namespace Go.Proofs.Ytllkafgmacngjaa
open Go.RowKit

theorem wd_is_one {r : Int} (h1 : ¬ (r < 32 ∨ (127 ≤ r ∧ r ≤ 159))) (h2 : ¬ Cw.hits Cw.marks r = true) (h3 : ¬ Cw.hits Cw.wide r = true) : Cw.wd r = 1 := by
  refine Cw.wd_one ?_ ?_ ?_
  · cases e : Cw.ctl r
    · rfl
    · exact absurd ((Cw.ctl_iff r).1 e) h1
  · cases e : Cw.hits Cw.marks r
    · rfl
    · exact absurd e h2
  · cases e : Cw.hits Cw.wide r
    · rfl
    · exact absurd e h3

theorem block0 (x : Int) : Cw.wd (32 + x % 95) = 1 := by
  have h0 := Int.emod_nonneg x (show (95 : Int) ≠ 0 by decide)
  have h1 := Int.emod_lt_of_pos x (show (0 : Int) < 95 by decide)
  generalize x % 95 = y at h0 h1
  exact wd_is_one (by omega) (by rw [Cw.hits_marks]; omega) (by rw [Cw.hits_wide]; omega)
theorem block1 (x : Int) : Cw.wd (160 + x % 608) = 1 := by
  have h0 := Int.emod_nonneg x (show (608 : Int) ≠ 0 by decide)
  have h1 := Int.emod_lt_of_pos x (show (0 : Int) < 608 by decide)
  generalize x % 608 = y at h0 h1
  exact wd_is_one (by omega) (by rw [Cw.hits_marks]; omega) (by rw [Cw.hits_wide]; omega)
theorem block2 (x : Int) : Cw.wd (880 + x % 144) = 1 := by
  have h0 := Int.emod_nonneg x (show (144 : Int) ≠ 0 by decide)
  have h1 := Int.emod_lt_of_pos x (show (0 : Int) < 144 by decide)
  generalize x % 144 = y at h0 h1
  exact wd_is_one (by omega) (by rw [Cw.hits_marks]; omega) (by rw [Cw.hits_wide]; omega)
theorem block3 (x : Int) : Cw.wd (65377 + x % 126) = 1 := by
  have h0 := Int.emod_nonneg x (show (126 : Int) ≠ 0 by decide)
  have h1 := Int.emod_lt_of_pos x (show (0 : Int) < 126 by decide)
  generalize x % 126 = y at h0 h1
  exact wd_is_one (by omega) (by rw [Cw.hits_marks]; omega) (by rw [Cw.hits_wide]; omega)
theorem block4 (x : Int) : Cw.wd (19968 + x % 20992) = 2 := by
  have h0 := Int.emod_nonneg x (show (20992 : Int) ≠ 0 by decide)
  have h1 := Int.emod_lt_of_pos x (show (0 : Int) < 20992 by decide)
  generalize x % 20992 = y at h0 h1
  exact Cw.wd_wide (by rw [Cw.hits_wide]; omega)
theorem block5 (x : Int) : Cw.wd (44032 + x % 11172) = 2 := by
  have h0 := Int.emod_nonneg x (show (11172 : Int) ≠ 0 by decide)
  have h1 := Int.emod_lt_of_pos x (show (0 : Int) < 11172 by decide)
  generalize x % 11172 = y at h0 h1
  exact Cw.wd_wide (by rw [Cw.hits_wide]; omega)
theorem block6 (x : Int) : Cw.wd (65281 + x % 94) = 2 := by
  have h0 := Int.emod_nonneg x (show (94 : Int) ≠ 0 by decide)
  have h1 := Int.emod_lt_of_pos x (show (0 : Int) < 94 by decide)
  generalize x % 94 = y at h0 h1
  exact Cw.wd_wide (by rw [Cw.hits_wide]; omega)
theorem block7 (x : Int) : Cw.wd (768 + x % 112) = 0 := by
  have h0 := Int.emod_nonneg x (show (112 : Int) ≠ 0 by decide)
  have h1 := Int.emod_lt_of_pos x (show (0 : Int) < 112 by decide)
  generalize x % 112 = y at h0 h1
  exact Cw.wd_mark (by rw [Cw.hits_marks]; omega)
theorem block8 (x : Int) : Cw.wd (65024 + x % 16) = 0 := by
  have h0 := Int.emod_nonneg x (show (16 : Int) ≠ 0 by decide)
  have h1 := Int.emod_lt_of_pos x (show (0 : Int) < 16 by decide)
  generalize x % 16 = y at h0 h1
  exact Cw.wd_mark (by rw [Cw.hits_marks]; omega)

set_option maxHeartbeats 1000000 in
set_option maxRecDepth 100000 in
theorem blocks_walk (x : Int) (w : World) (hx0 : 0 ≤ x) (hx1 : x ≤ 65535) :
    Calls Try.prog 10 #[.int .u16 x] w fun e w' => e = .returned (.bool true) ∧ Below w.heap.size w w' := by
  have h0 := fun w => width_any (32 + x % 95) w
  rw [block0 x] at h0
  have p0 := Int.emod_nonneg x (show (95 : Int) ≠ 0 by decide)
  have q0 := Int.emod_lt_of_pos x (show (0 : Int) < 95 by decide)
  have h1 := fun w => width_any (160 + x % 608) w
  rw [block1 x] at h1
  have p1 := Int.emod_nonneg x (show (608 : Int) ≠ 0 by decide)
  have q1 := Int.emod_lt_of_pos x (show (0 : Int) < 608 by decide)
  have h2 := fun w => width_any (880 + x % 144) w
  rw [block2 x] at h2
  have p2 := Int.emod_nonneg x (show (144 : Int) ≠ 0 by decide)
  have q2 := Int.emod_lt_of_pos x (show (0 : Int) < 144 by decide)
  have h3 := fun w => width_any (65377 + x % 126) w
  rw [block3 x] at h3
  have p3 := Int.emod_nonneg x (show (126 : Int) ≠ 0 by decide)
  have q3 := Int.emod_lt_of_pos x (show (0 : Int) < 126 by decide)
  have h4 := fun w => width_any (19968 + x % 20992) w
  rw [block4 x] at h4
  have p4 := Int.emod_nonneg x (show (20992 : Int) ≠ 0 by decide)
  have q4 := Int.emod_lt_of_pos x (show (0 : Int) < 20992 by decide)
  have h5 := fun w => width_any (44032 + x % 11172) w
  rw [block5 x] at h5
  have p5 := Int.emod_nonneg x (show (11172 : Int) ≠ 0 by decide)
  have q5 := Int.emod_lt_of_pos x (show (0 : Int) < 11172 by decide)
  have h6 := fun w => width_any (65281 + x % 94) w
  rw [block6 x] at h6
  have p6 := Int.emod_nonneg x (show (94 : Int) ≠ 0 by decide)
  have q6 := Int.emod_lt_of_pos x (show (0 : Int) < 94 by decide)
  have h7 := fun w => width_any (768 + x % 112) w
  rw [block7 x] at h7
  have p7 := Int.emod_nonneg x (show (112 : Int) ≠ 0 by decide)
  have q7 := Int.emod_lt_of_pos x (show (0 : Int) < 112 by decide)
  have h8 := fun w => width_any (65024 + x % 16) w
  rw [block8 x] at h8
  have p8 := Int.emod_nonneg x (show (16 : Int) ≠ 0 by decide)
  have q8 := Int.emod_lt_of_pos x (show (0 : Int) < 16 by decide)
  go_enter Try.func10, Try.ntmps10
  go_wp2_with fail
  refine (h0 w).mono ?_
  rintro e w1 ⟨rfl, b1⟩
  go_wp2_with fail
  refine (h1 w1).mono ?_
  rintro e w2 ⟨rfl, b2⟩
  go_wp2_with fail
  refine (h2 w2).mono ?_
  rintro e w3 ⟨rfl, b3⟩
  go_wp2_with fail
  refine (h3 w3).mono ?_
  rintro e w4 ⟨rfl, b4⟩
  go_wp2_with fail
  refine (h4 w4).mono ?_
  rintro e w5 ⟨rfl, b5⟩
  go_wp2_with fail
  refine (h5 w5).mono ?_
  rintro e w6 ⟨rfl, b6⟩
  go_wp2_with fail
  refine (h6 w6).mono ?_
  rintro e w7 ⟨rfl, b7⟩
  go_wp2_with fail
  refine (h7 w7).mono ?_
  rintro e w8 ⟨rfl, b8⟩
  go_wp2_with fail
  refine (h8 w8).mono ?_
  rintro e w9 ⟨rfl, b9⟩
  go_wp2_with fail
  refine (awake_any w9).mono ?_
  rintro e w10 ⟨rfl, b10⟩
  go_wp2
  go_ret
  have s1 := b1.size
  have s2 := b2.size
  have s3 := b3.size
  have s4 := b4.size
  have s5 := b5.size
  have s6 := b6.size
  have s7 := b7.size
  have s8 := b8.size
  have s9 := b9.size
  exact ⟨rfl, (((((((((b1.trans (b2.mono (by omega))).trans (b3.mono (by omega))).trans (b4.mono (by omega))).trans (b5.mono (by omega))).trans (b6.mono (by omega))).trans (b7.mono (by omega))).trans (b8.mono (by omega))).trans (b9.mono (by omega))).trans (b10.mono (by omega)))⟩

end Go.Proofs.Ytllkafgmacngjaa
