/-
  Modes without their character sets, their flags as a slice; the examples of the chapter hold: the function awake of layer 11's statements returns true.
-/
import Derived.Test.YtgnkbcflkalhjaaDoorMoSet
import Derived.Test.YtgnkbcflkalhjaaDoorMoMap
namespace Go.Proofs.YtgnkbcflkalhjaaDoor
open Go.RowKit Mo

def bare (m : M) : M := { m with s0 := 0, s1 := 0, sh := 0 }
set_option maxHeartbeats 1000000 in
set_option maxRecDepth 100000 in
theorem bare_any (m : M) (w : World) : Calls Tryd.prog 22 #[.agg #[.bool m.f0, .bool m.f1, .bool m.f2, .bool m.f3, .bool m.f4, .bool m.f5, .bool m.f6, .bool m.f7, .int .u8 m.s0, .int .u8 m.s1, .int .i64 m.sh]] w fun e w' => e = .returned (.agg #[.bool m.f0, .bool m.f1, .bool m.f2, .bool m.f3, .bool m.f4, .bool m.f5, .bool m.f6, .bool m.f7, .int .u8 0, .int .u8 0, .int .i64 0]) ∧ Below w.heap.size w w' := by
  go_enter Tryd.func22, Tryd.ntmps22
  go_wp2
  exact bodyPost_ret (res_m rfl _ _ (w.heap.size + 1) { m with s0 := 0, s1 := 0, sh := 0 } rfl (Md.put _ (by simp) { m with s0 := 0, s1 := 0, sh := 0 })) rfl ⟨rfl, below_step (below_alloc _ _) (below_alloc _ _)⟩

set_option maxHeartbeats 1000000 in
set_option maxRecDepth 100000 in
theorem flags_any (m : M) (w : World) : Calls Tryd.prog 23 #[.agg #[.bool m.f0, .bool m.f1, .bool m.f2, .bool m.f3, .bool m.f4, .bool m.f5, .bool m.f6, .bool m.f7, .int .u8 m.s0, .int .u8 m.s1, .int .i64 m.sh]] w
    fun e w' => (∃ k, e = .returned (.slice (some ⟨k, 0, none⟩) 8 8) ∧ w.heap.size ≤ k ∧ k < w'.heap.size ∧ ∀ j, j < 8 → w'.cell? ⟨k, j, none⟩ = some (.bool (m.get j))) ∧ Below w.heap.size w w' := by
  go_enter Tryd.func23, Tryd.ntmps23
  go_wp2
  go_ret
  refine ⟨⟨w.heap.size + 1, rfl, by omega, by simp, fun j hj => ?_⟩, below_step (below_alloc _ _) (below_alloc _ _)⟩
  rw [cell_of_row _ _ j #[.bool m.f0, .bool m.f1, .bool m.f2, .bool m.f3, .bool m.f4, .bool m.f5, .bool m.f6, .bool m.f7] 4 (0, 0) (heap_alloc2_new w _ _)]
  have : j = 0 ∨ j = 1 ∨ j = 2 ∨ j = 3 ∨ j = 4 ∨ j = 5 ∨ j = 6 ∨ j = 7 := by omega
  rcases this with rfl | rfl | rfl | rfl | rfl | rfl | rfl | rfl <;> rfl

theorem ex_new (w : World) : Calls Tryd.prog 12 #[] w fun e w' => e = .returned (.agg #[.bool false, .bool false, .bool false, .bool false, .bool true, .bool true, .bool false, .bool false, .int .u8 66, .int .u8 66, .int .i64 0]) ∧ Below w.heap.size w w' := new_any w
theorem ex_set (k : Nat) (U : World) (h : Nums U U.heap.size (some ⟨k, 0, none⟩) 2 [25, 2048]) : Calls Tryd.prog 14 #[.agg #[.bool false, .bool false, .bool false, .bool false, .bool true, .bool true, .bool false, .bool false, .int .u8 66, .int .u8 66, .int .i64 0], .int .u8 63, .slice (some ⟨k, 0, none⟩) 2 2, .bool false] U fun e w' => e = .returned (.agg #[.bool false, .bool false, .bool false, .bool false, .bool true, .bool false, .bool false, .bool false, .int .u8 66, .int .u8 66, .int .i64 0]) ∧ Below U.heap.size U w' :=
  set_any new ⟨false, false, false, false, true, false, false, false, 66, 66, 0⟩ 63 false (some ⟨k, 0, none⟩) 2 2 U.heap.size [25, 2048] (by omega) U h (Nat.le_refl _) rfl
theorem ex_des (U : World) : Calls Tryd.prog 16 #[.agg #[.bool false, .bool false, .bool false, .bool false, .bool true, .bool true, .bool false, .bool false, .int .u8 66, .int .u8 66, .int .i64 0], .string ⟨#[40]⟩, .int .u8 48] U fun e w' => e = .returned (.agg #[.bool false, .bool false, .bool false, .bool false, .bool true, .bool true, .bool false, .bool false, .int .u8 48, .int .u8 66, .int .i64 0]) ∧ Below U.heap.size U w' := by
  have h := desig_any new ⟨#[40]⟩ 48 U
  rwa [show desig new ⟨#[40]⟩ 48 = ⟨false, false, false, false, true, true, false, false, 48, 66, 0⟩ by unfold desig; rw [if_pos (.inr rfl), if_pos rfl]; rfl] at h
theorem ex_map (U : World) (hT : Tb U) : Calls Tryd.prog 20 #[.agg #[.bool false, .bool false, .bool false, .bool false, .bool true, .bool true, .bool false, .bool false, .int .u8 48, .int .u8 66, .int .i64 0], .int .i32 113] U fun e w' => e = .returned (.int .i32 9472) ∧ Below U.heap.size U w' := map_any ⟨false, false, false, false, true, true, false, false, 48, 66, 0⟩ 113 U hT
theorem ex_map2 (U : World) (hT : Tb U) : Calls Tryd.prog 20 #[.agg #[.bool false, .bool false, .bool false, .bool false, .bool true, .bool true, .bool false, .bool false, .int .u8 48, .int .u8 66, .int .i64 0], .int .i32 81] U fun e w' => e = .returned (.int .i32 81) ∧ Below U.heap.size U w' := map_any ⟨false, false, false, false, true, true, false, false, 48, 66, 0⟩ 81 U hT

set_option maxHeartbeats 1000000 in
set_option maxRecDepth 100000 in
theorem awake_any (w : World) (hT : Tb w) : Calls Tryd.prog 11 #[] w fun e w' => e = .returned (.bool true) ∧ Below w.heap.size w w' := by
  have C1 := Lib.hid ex_new
  have C2 := Lib.hid ex_set
  have C3 := Lib.hid ex_des
  have C4 := Lib.hid ex_map
  have C5 := Lib.hid ex_map2
  have HT := Lib.hid hT
  clear hT
  go_enter Tryd.func11, Tryd.ntmps11
  go_wp2_with fail
  refine (C1.out _).mono ?_
  rintro e w1 ⟨rfl, b1⟩
  have HN := Lib.hid (Out.made w1 [25, 2048] (by decide)).nums.2
  have B1 := Lib.hid (below_step b1 (below_alloc w1 (.cells #[.int .i64 25, .int .i64 2048] 3)))
  clear b1
  go_wp2_with fail
  refine (C2.out _ _ HN.out).mono ?_
  rintro e w2 ⟨rfl, b2⟩
  have M2 := Lib.hid (Md.laid w2 ⟨false, false, false, false, true, false, false, false, 66, 66, 0⟩)
  have B2 := Lib.hid (below_step (below_step B1.out b2) (below_alloc w2 (.cells #[.bool false, .bool false, .bool false, .bool false, .bool true, .bool false, .bool false, .bool false, .int .u8 66, .int .u8 66, .int .i64 0] 24)))
  clear b2 B1 HN
  go_wp2_with fail
  generalize w2.alloc (.cells #[.bool false, .bool false, .bool false, .bool false, .bool true, .bool false, .bool false, .bool false, .int .u8 66, .int .u8 66, .int .i64 0] 24) = y2 at M2 B2 ⊢
  generalize w2.heap.size = k2 at M2 ⊢
  refine (C1.out _).mono ?_
  rintro e w3 ⟨rfl, b3⟩
  have M3 := Lib.hid (M2.out.below b3)
  have B3 := Lib.hid (below_step B2.out b3)
  clear b3 M2 B2
  go_wp2_with fail
  refine (C3.out _).mono ?_
  rintro e w4 ⟨rfl, b4⟩
  have b4' := below_step b4 (below_alloc w4 (.cells #[.bool false, .bool false, .bool false, .bool false, .bool true, .bool true, .bool false, .bool false, .int .u8 48, .int .u8 66, .int .i64 0] 24))
  have M4 := Lib.hid (M3.out.below b4')
  have N4 := Lib.hid (Md.laid w4 ⟨false, false, false, false, true, true, false, false, 48, 66, 0⟩)
  have B4 := Lib.hid (below_step B3.out b4')
  obtain ⟨u0, u1, u2, u3, u4, u5, u6, u7, u8, u9, u10⟩ := M4.out.all
  obtain ⟨v0, v1, v2, v3, v4, v5, v6, v7, v8, v9, v10⟩ := N4.out.all
  simp only at u0 u1 u2 u3 u4 u5 u6 u7 u8 u9 u10 v0 v1 v2 v3 v4 v5 v6 v7 v8 v9 v10
  clear b4 b4' M3 B3
  go_wp2_with fail
  generalize w4.alloc (.cells #[.bool false, .bool false, .bool false, .bool false, .bool true, .bool true, .bool false, .bool false, .int .u8 48, .int .u8 66, .int .i64 0] 24) = y4 at M4 N4 B4 u0 u1 u2 u3 u4 u5 u6 u7 u8 u9 u10 v0 v1 v2 v3 v4 v5 v6 v7 v8 v9 v10 ⊢
  generalize w4.heap.size = k4 at N4 v0 v1 v2 v3 v4 v5 v6 v7 v8 v9 v10 ⊢
  refine (C4.out _ (HT.out.below B4.out)).mono ?_
  rintro e w5 ⟨rfl, b5⟩
  have N5 := Lib.hid (N4.out.below b5)
  have B5 := Lib.hid (below_step B4.out b5)
  clear u0 u1 u2 u3 u4 u5 u6 u7 u8 u9 u10 v0 v1 v2 v3 v4 v5 v6 v7 v8 v9 v10
  obtain ⟨v0, v1, v2, v3, v4, v5, v6, v7, v8, v9, v10⟩ := N5.out.all
  simp only at v0 v1 v2 v3 v4 v5 v6 v7 v8 v9 v10
  clear b5 N4 B4 M4
  go_wp2_with fail
  refine (C5.out _ (HT.out.below B5.out)).mono ?_
  rintro e w6 ⟨rfl, b6⟩
  have B6 := Lib.hid (below_step B5.out b6)
  clear b6
  go_wp2
  go_ret
  exact ⟨rfl, B6.out⟩

end Go.Proofs.YtgnkbcflkalhjaaDoor
