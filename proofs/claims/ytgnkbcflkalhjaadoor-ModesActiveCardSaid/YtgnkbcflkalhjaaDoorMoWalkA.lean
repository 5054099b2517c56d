/-
  The statement of layer 11 on the active set: the walk.
-/
import Derived.Test.YtgnkbcflkalhjaaDoorMoMem
import Derived.Deep.RegionHeld3
namespace Go.Proofs.YtgnkbcflkalhjaaDoor
open Go.RowKit Mo


set_option maxHeartbeats 4000000 in
set_option maxRecDepth 100000 in
theorem active_yes (m : M) (o r : Int) (w : World) (hT : Tb w) (hs :  m.sh = 1) :
    Calls Tryd.prog 10 #[.agg #[.bool m.f0, .bool m.f1, .bool m.f2, .bool m.f3, .bool m.f4, .bool m.f5, .bool m.f6, .bool m.f7, .int .u8 m.s0, .int .u8 m.s1, .int .i64 m.sh], .int .u8 o, .int .i32 r] w fun e w' => e = .returned (.bool true) ∧ Below w.heap.size w w' := by
  have GA := Lib.hid (awake_at hT)
  have es : (m.sh == 1) = true := by simp [hs]
  obtain ⟨y, hy⟩ : ∃ y, mapc (act m) r = y := ⟨_, rfl⟩
  obtain ⟨n, hn⟩ : ∃ n : M, { m with s0 := o } = n := ⟨_, rfl⟩
  obtain ⟨s, hs'⟩ : ∃ s : M, { m with s0 := m.s1, s1 := m.s0, sh := 0 } = s := ⟨_, rfl⟩
  have an : act n = act m := by subst hn; unfold act; simp [hs]
  have ac : act s = act m := by subst hs'; unfold act; simp [hs]
  have G1 := Lib.hid (map_at hT m r y hy)
  have G2 := Lib.hid (map_at hT n r y (by rw [an]; exact hy))
  have G3 := Lib.hid (map_at hT s r y (by rw [ac]; exact hy))
  have HNM := Lib.hid hn
  have HSM := Lib.hid hs'
  have eyy : (y == y) = true := by simp
  clear hT hs hy hn hs' an ac
  go_enter Tryd.func10, Tryd.ntmps10
  go_wp2_with fail

  have K0 : Mm w (((w.alloc (.cells #[.bool m.f0, .bool m.f1, .bool m.f2, .bool m.f3, .bool m.f4, .bool m.f5, .bool m.f6, .bool m.f7, .int .u8 m.s0, .int .u8 m.s1, .int .i64 m.sh] 24)).alloc (.cells #[.bool m.f0, .bool m.f1, .bool m.f2, .bool m.f3, .bool m.f4, .bool m.f5, .bool m.f6, .bool m.f7, .int .u8 o, .int .u8 m.s1, .int .i64 m.sh] 24)).alloc (.cells #[.bool m.f0, .bool m.f1, .bool m.f2, .bool m.f3, .bool m.f4, .bool m.f5, .bool m.f6, .bool m.f7, .int .u8 m.s0, .int .u8 m.s1, .int .i64 m.sh] 24)) [(w.heap.size, m), (w.heap.size + 1, { m with s0 := o }), (w.heap.size + 1 + 1, m)] := Mm.three w m { m with s0 := o }
  rw [HNM.out] at K0
  generalize (((w.alloc (.cells #[.bool m.f0, .bool m.f1, .bool m.f2, .bool m.f3, .bool m.f4, .bool m.f5, .bool m.f6, .bool m.f7, .int .u8 m.s0, .int .u8 m.s1, .int .i64 m.sh] 24)).alloc (.cells #[.bool m.f0, .bool m.f1, .bool m.f2, .bool m.f3, .bool m.f4, .bool m.f5, .bool m.f6, .bool m.f7, .int .u8 o, .int .u8 m.s1, .int .i64 m.sh] 24)).alloc (.cells #[.bool m.f0, .bool m.f1, .bool m.f2, .bool m.f3, .bool m.f4, .bool m.f5, .bool m.f6, .bool m.f7, .int .u8 m.s0, .int .u8 m.s1, .int .i64 m.sh] 24)) = V at K0 ⊢
  have KH := Lib.hid K0
  obtain ⟨_, _, _, _, _, _, _, _, u8, u9, u10⟩ := (K0.at 0 rfl).all
  obtain ⟨_, _, _, _, _, _, _, _, v8, v9, v10⟩ := (K0.at 2 rfl).all
  have z8 := (K0.at 2 rfl).z 8
  have z9 := (K0.at 2 rfl).z 9
  have z10 := (K0.at 2 rfl).z 10
  have n1 : w.heap.size ≠ w.heap.size + 1 + 1 := by omega
  have n2 : w.heap.size + 1 + 1 ≠ w.heap.size := by omega
  have sS : ∀ {U : World} (j : Nat) (v : Value), (U.cell? ⟨w.heap.size, 8, none⟩ = some (.int .u8 m.s0) ∧ U.cell? ⟨w.heap.size, 9, none⟩ = some (.int .u8 m.s1)) → ((U.setCell ⟨w.heap.size + 1 + 1, j, none⟩ v).cell? ⟨w.heap.size, 8, none⟩ = some (.int .u8 m.s0) ∧ (U.setCell ⟨w.heap.size + 1 + 1, j, none⟩ v).cell? ⟨w.heap.size, 9, none⟩ = some (.int .u8 m.s1)) := fun {U} j v hs => ⟨(World.cell?_of_block (a := ⟨w.heap.size, 8, none⟩) (heap_setCell_other U ⟨w.heap.size + 1 + 1, j, none⟩ _ v n1)).trans hs.1, (World.cell?_of_block (a := ⟨w.heap.size, 9, none⟩) (heap_setCell_other U ⟨w.heap.size + 1 + 1, j, none⟩ _ v n1)).trans hs.2⟩
  have hS : V.drew.cell? ⟨w.heap.size, 8, none⟩ = some (.int .u8 m.s0) ∧ V.drew.cell? ⟨w.heap.size, 9, none⟩ = some (.int .u8 m.s1) := ⟨u8, u9⟩
  clear K0
  go_region_held3 (fun U => U.cell? ⟨w.heap.size, 8, none⟩ = some (.int .u8 m.s0) ∧ U.cell? ⟨w.heap.size, 9, none⟩ = some (.int .u8 m.s1))
    (first | assumption | (refine sS _ _ ?_; assumption) | (refine sS _ _ ?_; refine sS _ _ ?_; assumption))
    (fail)
  clear sS hS
  go_wp2_with fail
  have n3 : w.heap.size + 1 ≠ w.heap.size + 1 + 1 := by omega
  have E : Md ((((V.setCell ⟨w.heap.size + 1 + 1, 8, none⟩ (.int .u8 m.s1)).setCell ⟨w.heap.size + 1 + 1, 9, none⟩ (.int .u8 m.s0)).setCell ⟨w.heap.size + 1 + 1, 10, none⟩ (.int .i64 1)).setCell ⟨w.heap.size + 1 + 1, 10, none⟩ (.int .i64 0)) (w.heap.size + 1 + 1) { m with s0 := m.s1, s1 := m.s0, sh := 0 } := (((((KH.out.at 2 rfl).s8 m.s1).s9 m.s0).s10 1).s10 0)
  rw [HSM.out] at E
  have K1 : Mm w ((((V.setCell ⟨w.heap.size + 1 + 1, 8, none⟩ (.int .u8 m.s1)).setCell ⟨w.heap.size + 1 + 1, 9, none⟩ (.int .u8 m.s0)).setCell ⟨w.heap.size + 1 + 1, 10, none⟩ (.int .i64 1)).setCell ⟨w.heap.size + 1 + 1, 10, none⟩ (.int .i64 0)) [(w.heap.size, m), (w.heap.size + 1, n), (w.heap.size + 1 + 1, s)] := by
    refine ⟨((((KH.out.1.setCell (p := ⟨w.heap.size + 1 + 1, 8, none⟩) (show w.heap.size ≤ w.heap.size + 1 + 1 by omega) _).setCell (p := ⟨w.heap.size + 1 + 1, 9, none⟩) (show w.heap.size ≤ w.heap.size + 1 + 1 by omega) _).setCell (p := ⟨w.heap.size + 1 + 1, 10, none⟩) (show w.heap.size ≤ w.heap.size + 1 + 1 by omega) _).setCell (p := ⟨w.heap.size + 1 + 1, 10, none⟩) (show w.heap.size ≤ w.heap.size + 1 + 1 by omega) _), fun x hx => ?_⟩
    simp only [List.mem_cons, List.not_mem_nil, or_false] at hx
    rcases hx with rfl | rfl | rfl
    · exact (((((KH.out.at 0 rfl).other n1 _).other n1 _).other n1 _).other n1 _)
    · exact (((((KH.out.at 1 rfl).other n3 _).other n3 _).other n3 _).other n3 _)
    · exact E
  clear E KH u8 u9 u10 v8 v9 v10 z8 z9 z10 n1 n2 n3 HNM HSM es
  generalize ((((V.setCell ⟨w.heap.size + 1 + 1, 8, none⟩ (.int .u8 m.s1)).setCell ⟨w.heap.size + 1 + 1, 9, none⟩ (.int .u8 m.s0)).setCell ⟨w.heap.size + 1 + 1, 10, none⟩ (.int .i64 1)).setCell ⟨w.heap.size + 1 + 1, 10, none⟩ (.int .i64 0)) = V2 at K1 ⊢
  have key0 : ∀ U, Mm w U [(w.heap.size, m), (w.heap.size + 1, n), (w.heap.size + 1 + 1, s)] → (U.cell? ⟨w.heap.size, 0, none⟩ = some (.bool m.f0) ∧ U.cell? ⟨w.heap.size, 1, none⟩ = some (.bool m.f1) ∧ U.cell? ⟨w.heap.size, 2, none⟩ = some (.bool m.f2) ∧ U.cell? ⟨w.heap.size, 3, none⟩ = some (.bool m.f3) ∧ U.cell? ⟨w.heap.size, 4, none⟩ = some (.bool m.f4) ∧ U.cell? ⟨w.heap.size, 5, none⟩ = some (.bool m.f5) ∧ U.cell? ⟨w.heap.size, 6, none⟩ = some (.bool m.f6) ∧ U.cell? ⟨w.heap.size, 7, none⟩ = some (.bool m.f7) ∧ U.cell? ⟨w.heap.size, 8, none⟩ = some (.int .u8 m.s0) ∧ U.cell? ⟨w.heap.size, 9, none⟩ = some (.int .u8 m.s1) ∧ U.cell? ⟨w.heap.size, 10, none⟩ = some (.int .i64 m.sh) ∧ U.cell? ⟨w.heap.size + 1, 0, none⟩ = some (.bool n.f0) ∧ U.cell? ⟨w.heap.size + 1, 1, none⟩ = some (.bool n.f1) ∧ U.cell? ⟨w.heap.size + 1, 2, none⟩ = some (.bool n.f2) ∧ U.cell? ⟨w.heap.size + 1, 3, none⟩ = some (.bool n.f3) ∧ U.cell? ⟨w.heap.size + 1, 4, none⟩ = some (.bool n.f4) ∧ U.cell? ⟨w.heap.size + 1, 5, none⟩ = some (.bool n.f5) ∧ U.cell? ⟨w.heap.size + 1, 6, none⟩ = some (.bool n.f6) ∧ U.cell? ⟨w.heap.size + 1, 7, none⟩ = some (.bool n.f7) ∧ U.cell? ⟨w.heap.size + 1, 8, none⟩ = some (.int .u8 n.s0) ∧ U.cell? ⟨w.heap.size + 1, 9, none⟩ = some (.int .u8 n.s1) ∧ U.cell? ⟨w.heap.size + 1, 10, none⟩ = some (.int .i64 n.sh) ∧ U.cell? ⟨w.heap.size + 1 + 1, 0, none⟩ = some (.bool s.f0) ∧ U.cell? ⟨w.heap.size + 1 + 1, 1, none⟩ = some (.bool s.f1) ∧ U.cell? ⟨w.heap.size + 1 + 1, 2, none⟩ = some (.bool s.f2) ∧ U.cell? ⟨w.heap.size + 1 + 1, 3, none⟩ = some (.bool s.f3) ∧ U.cell? ⟨w.heap.size + 1 + 1, 4, none⟩ = some (.bool s.f4) ∧ U.cell? ⟨w.heap.size + 1 + 1, 5, none⟩ = some (.bool s.f5) ∧ U.cell? ⟨w.heap.size + 1 + 1, 6, none⟩ = some (.bool s.f6) ∧ U.cell? ⟨w.heap.size + 1 + 1, 7, none⟩ = some (.bool s.f7) ∧ U.cell? ⟨w.heap.size + 1 + 1, 8, none⟩ = some (.int .u8 s.s0) ∧ U.cell? ⟨w.heap.size + 1 + 1, 9, none⟩ = some (.int .u8 s.s1) ∧ U.cell? ⟨w.heap.size + 1 + 1, 10, none⟩ = some (.int .i64 s.sh) ∧ Aside (Mm w U [(w.heap.size, m), (w.heap.size + 1, n), (w.heap.size + 1 + 1, s)])) := fun U k => by
    obtain ⟨a0_0, a0_1, a0_2, a0_3, a0_4, a0_5, a0_6, a0_7, a0_8, a0_9, a0_10⟩ := (k.at 0 rfl).all
    obtain ⟨a1_0, a1_1, a1_2, a1_3, a1_4, a1_5, a1_6, a1_7, a1_8, a1_9, a1_10⟩ := (k.at 1 rfl).all
    obtain ⟨a2_0, a2_1, a2_2, a2_3, a2_4, a2_5, a2_6, a2_7, a2_8, a2_9, a2_10⟩ := (k.at 2 rfl).all
    exact ⟨a0_0, a0_1, a0_2, a0_3, a0_4, a0_5, a0_6, a0_7, a0_8, a0_9, a0_10, a1_0, a1_1, a1_2, a1_3, a1_4, a1_5, a1_6, a1_7, a1_8, a1_9, a1_10, a2_0, a2_1, a2_2, a2_3, a2_4, a2_5, a2_6, a2_7, a2_8, a2_9, a2_10, k⟩
  have HKEEP : Hid (∀ (U U' : World), (U.cell? ⟨w.heap.size, 0, none⟩ = some (.bool m.f0) ∧ U.cell? ⟨w.heap.size, 1, none⟩ = some (.bool m.f1) ∧ U.cell? ⟨w.heap.size, 2, none⟩ = some (.bool m.f2) ∧ U.cell? ⟨w.heap.size, 3, none⟩ = some (.bool m.f3) ∧ U.cell? ⟨w.heap.size, 4, none⟩ = some (.bool m.f4) ∧ U.cell? ⟨w.heap.size, 5, none⟩ = some (.bool m.f5) ∧ U.cell? ⟨w.heap.size, 6, none⟩ = some (.bool m.f6) ∧ U.cell? ⟨w.heap.size, 7, none⟩ = some (.bool m.f7) ∧ U.cell? ⟨w.heap.size, 8, none⟩ = some (.int .u8 m.s0) ∧ U.cell? ⟨w.heap.size, 9, none⟩ = some (.int .u8 m.s1) ∧ U.cell? ⟨w.heap.size, 10, none⟩ = some (.int .i64 m.sh) ∧ U.cell? ⟨w.heap.size + 1, 0, none⟩ = some (.bool n.f0) ∧ U.cell? ⟨w.heap.size + 1, 1, none⟩ = some (.bool n.f1) ∧ U.cell? ⟨w.heap.size + 1, 2, none⟩ = some (.bool n.f2) ∧ U.cell? ⟨w.heap.size + 1, 3, none⟩ = some (.bool n.f3) ∧ U.cell? ⟨w.heap.size + 1, 4, none⟩ = some (.bool n.f4) ∧ U.cell? ⟨w.heap.size + 1, 5, none⟩ = some (.bool n.f5) ∧ U.cell? ⟨w.heap.size + 1, 6, none⟩ = some (.bool n.f6) ∧ U.cell? ⟨w.heap.size + 1, 7, none⟩ = some (.bool n.f7) ∧ U.cell? ⟨w.heap.size + 1, 8, none⟩ = some (.int .u8 n.s0) ∧ U.cell? ⟨w.heap.size + 1, 9, none⟩ = some (.int .u8 n.s1) ∧ U.cell? ⟨w.heap.size + 1, 10, none⟩ = some (.int .i64 n.sh) ∧ U.cell? ⟨w.heap.size + 1 + 1, 0, none⟩ = some (.bool s.f0) ∧ U.cell? ⟨w.heap.size + 1 + 1, 1, none⟩ = some (.bool s.f1) ∧ U.cell? ⟨w.heap.size + 1 + 1, 2, none⟩ = some (.bool s.f2) ∧ U.cell? ⟨w.heap.size + 1 + 1, 3, none⟩ = some (.bool s.f3) ∧ U.cell? ⟨w.heap.size + 1 + 1, 4, none⟩ = some (.bool s.f4) ∧ U.cell? ⟨w.heap.size + 1 + 1, 5, none⟩ = some (.bool s.f5) ∧ U.cell? ⟨w.heap.size + 1 + 1, 6, none⟩ = some (.bool s.f6) ∧ U.cell? ⟨w.heap.size + 1 + 1, 7, none⟩ = some (.bool s.f7) ∧ U.cell? ⟨w.heap.size + 1 + 1, 8, none⟩ = some (.int .u8 s.s0) ∧ U.cell? ⟨w.heap.size + 1 + 1, 9, none⟩ = some (.int .u8 s.s1) ∧ U.cell? ⟨w.heap.size + 1 + 1, 10, none⟩ = some (.int .i64 s.sh) ∧ Aside (Mm w U [(w.heap.size, m), (w.heap.size + 1, n), (w.heap.size + 1 + 1, s)])) → Below U.heap.size U U' → (U'.cell? ⟨w.heap.size, 0, none⟩ = some (.bool m.f0) ∧ U'.cell? ⟨w.heap.size, 1, none⟩ = some (.bool m.f1) ∧ U'.cell? ⟨w.heap.size, 2, none⟩ = some (.bool m.f2) ∧ U'.cell? ⟨w.heap.size, 3, none⟩ = some (.bool m.f3) ∧ U'.cell? ⟨w.heap.size, 4, none⟩ = some (.bool m.f4) ∧ U'.cell? ⟨w.heap.size, 5, none⟩ = some (.bool m.f5) ∧ U'.cell? ⟨w.heap.size, 6, none⟩ = some (.bool m.f6) ∧ U'.cell? ⟨w.heap.size, 7, none⟩ = some (.bool m.f7) ∧ U'.cell? ⟨w.heap.size, 8, none⟩ = some (.int .u8 m.s0) ∧ U'.cell? ⟨w.heap.size, 9, none⟩ = some (.int .u8 m.s1) ∧ U'.cell? ⟨w.heap.size, 10, none⟩ = some (.int .i64 m.sh) ∧ U'.cell? ⟨w.heap.size + 1, 0, none⟩ = some (.bool n.f0) ∧ U'.cell? ⟨w.heap.size + 1, 1, none⟩ = some (.bool n.f1) ∧ U'.cell? ⟨w.heap.size + 1, 2, none⟩ = some (.bool n.f2) ∧ U'.cell? ⟨w.heap.size + 1, 3, none⟩ = some (.bool n.f3) ∧ U'.cell? ⟨w.heap.size + 1, 4, none⟩ = some (.bool n.f4) ∧ U'.cell? ⟨w.heap.size + 1, 5, none⟩ = some (.bool n.f5) ∧ U'.cell? ⟨w.heap.size + 1, 6, none⟩ = some (.bool n.f6) ∧ U'.cell? ⟨w.heap.size + 1, 7, none⟩ = some (.bool n.f7) ∧ U'.cell? ⟨w.heap.size + 1, 8, none⟩ = some (.int .u8 n.s0) ∧ U'.cell? ⟨w.heap.size + 1, 9, none⟩ = some (.int .u8 n.s1) ∧ U'.cell? ⟨w.heap.size + 1, 10, none⟩ = some (.int .i64 n.sh) ∧ U'.cell? ⟨w.heap.size + 1 + 1, 0, none⟩ = some (.bool s.f0) ∧ U'.cell? ⟨w.heap.size + 1 + 1, 1, none⟩ = some (.bool s.f1) ∧ U'.cell? ⟨w.heap.size + 1 + 1, 2, none⟩ = some (.bool s.f2) ∧ U'.cell? ⟨w.heap.size + 1 + 1, 3, none⟩ = some (.bool s.f3) ∧ U'.cell? ⟨w.heap.size + 1 + 1, 4, none⟩ = some (.bool s.f4) ∧ U'.cell? ⟨w.heap.size + 1 + 1, 5, none⟩ = some (.bool s.f5) ∧ U'.cell? ⟨w.heap.size + 1 + 1, 6, none⟩ = some (.bool s.f6) ∧ U'.cell? ⟨w.heap.size + 1 + 1, 7, none⟩ = some (.bool s.f7) ∧ U'.cell? ⟨w.heap.size + 1 + 1, 8, none⟩ = some (.int .u8 s.s0) ∧ U'.cell? ⟨w.heap.size + 1 + 1, 9, none⟩ = some (.int .u8 s.s1) ∧ U'.cell? ⟨w.heap.size + 1 + 1, 10, none⟩ = some (.int .i64 s.sh) ∧ Aside (Mm w U' [(w.heap.size, m), (w.heap.size + 1, n), (w.heap.size + 1 + 1, s)]))) := Lib.hid (fun U U' hs hu => key0 U' (hs.2.2.2.2.2.2.2.2.2.2.2.2.2.2.2.2.2.2.2.2.2.2.2.2.2.2.2.2.2.2.2.2.2.out.below hu))
  have hS := key0 V2.drew.drew ((K1.below (Below.refl _ _).drew).below (Below.refl _ _).drew)
  clear key0
  clear K1
  refine wp_region_held_drew (S := fun U => U.cell? ⟨w.heap.size, 0, none⟩ = some (.bool m.f0) ∧ U.cell? ⟨w.heap.size, 1, none⟩ = some (.bool m.f1) ∧ U.cell? ⟨w.heap.size, 2, none⟩ = some (.bool m.f2) ∧ U.cell? ⟨w.heap.size, 3, none⟩ = some (.bool m.f3) ∧ U.cell? ⟨w.heap.size, 4, none⟩ = some (.bool m.f4) ∧ U.cell? ⟨w.heap.size, 5, none⟩ = some (.bool m.f5) ∧ U.cell? ⟨w.heap.size, 6, none⟩ = some (.bool m.f6) ∧ U.cell? ⟨w.heap.size, 7, none⟩ = some (.bool m.f7) ∧ U.cell? ⟨w.heap.size, 8, none⟩ = some (.int .u8 m.s0) ∧ U.cell? ⟨w.heap.size, 9, none⟩ = some (.int .u8 m.s1) ∧ U.cell? ⟨w.heap.size, 10, none⟩ = some (.int .i64 m.sh) ∧ U.cell? ⟨w.heap.size + 1, 0, none⟩ = some (.bool n.f0) ∧ U.cell? ⟨w.heap.size + 1, 1, none⟩ = some (.bool n.f1) ∧ U.cell? ⟨w.heap.size + 1, 2, none⟩ = some (.bool n.f2) ∧ U.cell? ⟨w.heap.size + 1, 3, none⟩ = some (.bool n.f3) ∧ U.cell? ⟨w.heap.size + 1, 4, none⟩ = some (.bool n.f4) ∧ U.cell? ⟨w.heap.size + 1, 5, none⟩ = some (.bool n.f5) ∧ U.cell? ⟨w.heap.size + 1, 6, none⟩ = some (.bool n.f6) ∧ U.cell? ⟨w.heap.size + 1, 7, none⟩ = some (.bool n.f7) ∧ U.cell? ⟨w.heap.size + 1, 8, none⟩ = some (.int .u8 n.s0) ∧ U.cell? ⟨w.heap.size + 1, 9, none⟩ = some (.int .u8 n.s1) ∧ U.cell? ⟨w.heap.size + 1, 10, none⟩ = some (.int .i64 n.sh) ∧ U.cell? ⟨w.heap.size + 1 + 1, 0, none⟩ = some (.bool s.f0) ∧ U.cell? ⟨w.heap.size + 1 + 1, 1, none⟩ = some (.bool s.f1) ∧ U.cell? ⟨w.heap.size + 1 + 1, 2, none⟩ = some (.bool s.f2) ∧ U.cell? ⟨w.heap.size + 1 + 1, 3, none⟩ = some (.bool s.f3) ∧ U.cell? ⟨w.heap.size + 1 + 1, 4, none⟩ = some (.bool s.f4) ∧ U.cell? ⟨w.heap.size + 1 + 1, 5, none⟩ = some (.bool s.f5) ∧ U.cell? ⟨w.heap.size + 1 + 1, 6, none⟩ = some (.bool s.f6) ∧ U.cell? ⟨w.heap.size + 1 + 1, 7, none⟩ = some (.bool s.f7) ∧ U.cell? ⟨w.heap.size + 1 + 1, 8, none⟩ = some (.int .u8 s.s0) ∧ U.cell? ⟨w.heap.size + 1 + 1, 9, none⟩ = some (.int .u8 s.s1) ∧ U.cell? ⟨w.heap.size + 1 + 1, 10, none⟩ = some (.int .i64 s.sh) ∧ Aside (Mm w U [(w.heap.size, m), (w.heap.size + 1, n), (w.heap.size + 1 + 1, s)])) (by kernel_rfl) hS (fun hHeld => ?_)
  clear hS
  refine wpAnyH_take (i := 0) (v := ?_) rfl (by kernel_rfl) (by kernel_rfl) (by kernel_rfl) (fun _ _ _ h => h) (Or.inl ⟨by rfl, ?_⟩) (by assumption) ?_
  rotate_left
  · (intro W hSw; (try dsimp only at hSw); go_simp; try with_reducible rfl)
  simp only [Act.put, List.getElem_toArray, List.getElem_cons_zero, List.setIfInBounds_toArray, List.set_cons_zero, List.set_cons_succ]
  refine wpAnyH_take (i := 1) (v := ?_) rfl (by kernel_rfl) (by kernel_rfl) (by kernel_rfl) (fun _ _ _ h => h) (Or.inl ⟨by rfl, ?_⟩) (by assumption) ?_
  rotate_left
  · (intro W hSw; (try dsimp only at hSw); go_simp; try with_reducible rfl)
  simp only [Act.put, List.getElem_toArray, List.getElem_cons_succ, List.getElem_cons_zero, List.setIfInBounds_toArray, List.set_cons_zero, List.set_cons_succ]
  refine wpAnyH_take (i := 3) (v := ?_) rfl (by kernel_rfl) (by kernel_rfl) (by kernel_rfl) (fun _ _ _ h => h) (Or.inl ⟨by rfl, ?_⟩) (by assumption) ?_
  rotate_left
  · (intro W hSw; (try dsimp only at hSw); go_simp; try with_reducible rfl)
  simp only [Act.put, List.getElem_toArray, List.getElem_cons_succ, List.getElem_cons_zero, List.setIfInBounds_toArray, List.set_cons_zero, List.set_cons_succ]
  refine wpAnyH_take (i := 4) (v := ?_) rfl (by kernel_rfl) (by kernel_rfl) (by kernel_rfl) (fun _ _ _ h => h) (Or.inl ⟨by rfl, ?_⟩) (by assumption) ?_
  rotate_left
  · (intro W hSw; (try dsimp only at hSw); go_simp; try with_reducible rfl)
  simp only [Act.put, List.getElem_toArray, List.getElem_cons_succ, List.getElem_cons_zero, List.setIfInBounds_toArray, List.set_cons_zero, List.set_cons_succ]
  refine wpAnyH_ready (rs := [2]) (by kernel_rfl) (by simp) ?_
  refine AllReadyH.cons rfl (fun K hK => ?_) AllReadyH.nil
  go_simp
  have hU := hHeld.2.2.2.2.2.2.2.2.2.2.2.2.2.2.2.2.2.2.2.2.2.2.2.2.2.2.2.2.2.2.2.2.2.out.1; (with_reducible refine (G1.out _ hU).mono ?_); clear hU; rintro e w' ⟨rfl, hb'⟩; have hs' := HKEEP.out _ _ hHeld hb'; clear hHeld hb'
  refine hK.out _ _ hs' (fun hHeld => ?_)
  clear hK K hs'
  refine wpAnyH_ready (rs := [5]) (by kernel_rfl) (by simp) ?_
  refine AllReadyH.cons rfl (fun K hK => ?_) AllReadyH.nil
  go_simp
  have hU := hHeld.2.2.2.2.2.2.2.2.2.2.2.2.2.2.2.2.2.2.2.2.2.2.2.2.2.2.2.2.2.2.2.2.2.out.1; (with_reducible refine (G2.out _ hU).mono ?_); clear hU; rintro e w' ⟨rfl, hb'⟩; have hs' := HKEEP.out _ _ hHeld hb'; clear hHeld hb'
  refine hK.out _ _ hs' (fun hHeld => ?_)
  clear hK K hs'
  refine wpAnyH_take (i := 6) (v := ?_) rfl (by kernel_rfl) (by kernel_rfl) (by kernel_rfl) (fun _ _ _ h => h) (Or.inl ⟨by rfl, ?_⟩) (by assumption) ?_
  rotate_left
  · (intro W hSw; (try dsimp only at hSw); go_simp; try with_reducible rfl)
  simp only [Act.put, List.getElem_toArray, List.getElem_cons_succ, List.getElem_cons_zero, List.setIfInBounds_toArray, List.set_cons_zero, List.set_cons_succ]
  refine wpAnyH_take (i := 7) (v := ?_) rfl (by kernel_rfl) (by kernel_rfl) (by kernel_rfl) (fun _ _ _ h => h) (Or.inl ⟨by rfl, ?_⟩) (by assumption) ?_
  rotate_left
  · (intro W hSw; (try dsimp only at hSw); go_simp; try with_reducible rfl)
  simp only [Act.put, List.getElem_toArray, List.getElem_cons_succ, List.getElem_cons_zero, List.setIfInBounds_toArray, List.set_cons_zero, List.set_cons_succ]
  refine wpAnyH_take (i := 8) (v := ?_) rfl (by kernel_rfl) (by kernel_rfl) (by kernel_rfl) (fun _ _ _ h => h) (Or.inl ⟨by rfl, ?_⟩) (by assumption) ?_
  rotate_left
  · (intro W hSw; (try dsimp only at hSw); go_simp; try with_reducible rfl)
  simp only [Act.put, List.getElem_toArray, List.getElem_cons_succ, List.getElem_cons_zero, List.setIfInBounds_toArray, List.set_cons_zero, List.set_cons_succ]
  refine wpAnyH_take (i := 9) (v := ?_) rfl (by kernel_rfl) (by kernel_rfl) (by kernel_rfl) (fun _ _ _ h => h) (Or.inl ⟨by rfl, ?_⟩) (by assumption) ?_
  rotate_left
  · (intro W hSw; (try dsimp only at hSw); go_simp; try with_reducible rfl)
  simp only [Act.put, List.getElem_toArray, List.getElem_cons_succ, List.getElem_cons_zero, List.setIfInBounds_toArray, List.set_cons_zero, List.set_cons_succ]
  refine wpAnyH_take (i := 11) (v := ?_) rfl (by kernel_rfl) (by kernel_rfl) (by kernel_rfl) (fun _ _ _ h => h) (Or.inl ⟨by rfl, ?_⟩) (by assumption) ?_
  rotate_left
  · (intro W hSw; (try dsimp only at hSw); go_simp; try with_reducible rfl)
  simp only [Act.put, List.getElem_toArray, List.getElem_cons_succ, List.getElem_cons_zero, List.setIfInBounds_toArray, List.set_cons_zero, List.set_cons_succ]
  refine wpAnyH_take (i := 12) (v := ?_) rfl (by kernel_rfl) (by kernel_rfl) (by kernel_rfl) (fun _ _ _ h => h) (Or.inl ⟨by rfl, ?_⟩) (by assumption) ?_
  rotate_left
  · (intro W hSw; (try dsimp only at hSw); go_simp; try with_reducible rfl)
  simp only [Act.put, List.getElem_toArray, List.getElem_cons_succ, List.getElem_cons_zero, List.setIfInBounds_toArray, List.set_cons_zero, List.set_cons_succ]
  refine wpAnyH_ready (rs := [10]) (by kernel_rfl) (by simp) ?_
  refine AllReadyH.cons rfl (fun K hK => ?_) AllReadyH.nil
  go_simp
  have hU := hHeld.2.2.2.2.2.2.2.2.2.2.2.2.2.2.2.2.2.2.2.2.2.2.2.2.2.2.2.2.2.2.2.2.2.out.1; (with_reducible refine (G1.out _ hU).mono ?_); clear hU; rintro e w' ⟨rfl, hb'⟩; have hs' := HKEEP.out _ _ hHeld hb'; clear hHeld hb'
  refine hK.out _ _ hs' (fun hHeld => ?_)
  clear hK K hs'
  refine wpAnyH_ready (rs := [13]) (by kernel_rfl) (by simp) ?_
  refine AllReadyH.cons rfl (fun K hK => ?_) AllReadyH.nil
  go_simp
  have hU := hHeld.2.2.2.2.2.2.2.2.2.2.2.2.2.2.2.2.2.2.2.2.2.2.2.2.2.2.2.2.2.2.2.2.2.out.1; (with_reducible refine (G3.out _ hU).mono ?_); clear hU; rintro e w' ⟨rfl, hb'⟩; have hs' := HKEEP.out _ _ hHeld hb'; clear hHeld hb'
  refine hK.out _ _ hs' (fun hHeld => ?_)
  clear hK K hs'
  refine wpAnyH_take (i := 14) (v := ?_) rfl (by kernel_rfl) (by kernel_rfl) (by kernel_rfl) (fun _ _ _ h => h) (Or.inl ⟨by rfl, ?_⟩) (by assumption) ?_
  rotate_left
  · (intro W hSw; (try dsimp only at hSw); go_simp; try with_reducible rfl)
  simp only [Act.put, List.getElem_toArray, List.getElem_cons_succ, List.getElem_cons_zero, List.setIfInBounds_toArray, List.set_cons_zero, List.set_cons_succ]
  refine wpAnyH_take (i := 15) (v := ?_) rfl (by kernel_rfl) (by kernel_rfl) (by kernel_rfl) (fun _ _ _ h => h) (Or.inl ⟨by rfl, ?_⟩) (by assumption) ?_
  rotate_left
  · (intro W hSw; (try dsimp only at hSw); go_simp; try with_reducible rfl)
  simp only [Act.put, List.getElem_toArray, List.getElem_cons_succ, List.getElem_cons_zero, List.setIfInBounds_toArray, List.set_cons_zero, List.set_cons_succ]
  refine wpAnyH_take (i := 16) (v := ?_) rfl (by kernel_rfl) (by kernel_rfl) (by kernel_rfl) (fun _ _ _ h => h) (Or.inl ⟨by rfl, ?_⟩) (by assumption) ?_
  rotate_left
  · (intro W hSw; (try dsimp only at hSw); go_simp; try with_reducible rfl)
  simp only [Act.put, List.getElem_toArray, List.getElem_cons_succ, List.getElem_cons_zero, List.setIfInBounds_toArray, List.set_cons_zero, List.set_cons_succ]
  refine wpAnyH_ready (rs := [17]) (by kernel_rfl) (by simp) ?_
  refine AllReadyH.cons rfl (fun K hK => ?_) AllReadyH.nil
  go_simp
  have hU := hHeld.2.2.2.2.2.2.2.2.2.2.2.2.2.2.2.2.2.2.2.2.2.2.2.2.2.2.2.2.2.2.2.2.2.out.1; (with_reducible refine (GA.out _ hU).mono ?_); clear hU; rintro e w' ⟨rfl, hb'⟩; have hs' := HKEEP.out _ _ hHeld hb'; clear hHeld hb'
  refine hK.out _ _ hs' (fun hHeld => ?_)
  clear hK K hs'
  refine wpAnyH_take (i := 18) (v := ?_) rfl (by kernel_rfl) (by kernel_rfl) (by kernel_rfl) (fun _ _ _ h => h) (Or.inl ⟨by rfl, ?_⟩) (by assumption) ?_
  rotate_left
  · (intro W hSw; (try dsimp only at hSw); go_simp; try with_reducible rfl)
  simp only [Act.put, List.getElem_toArray, List.getElem_cons_succ, List.getElem_cons_zero, List.setIfInBounds_toArray, List.set_cons_zero, List.set_cons_succ]
  refine wpAnyH_take (i := 19) (v := ?_) rfl (by kernel_rfl) (by kernel_rfl) (by kernel_rfl) (fun _ _ _ h => h) (Or.inl ⟨by rfl, ?_⟩) (by assumption) ?_
  rotate_left
  · (intro W hSw; (try dsimp only at hSw); go_simp; try with_reducible rfl)
  simp only [Act.put, List.getElem_toArray, List.getElem_cons_succ, List.getElem_cons_zero, List.setIfInBounds_toArray, List.set_cons_zero, List.set_cons_succ]
  refine wpAnyH_done (by kernel_rfl) ?_ _
  have hB := hHeld.2.2.2.2.2.2.2.2.2.2.2.2.2.2.2.2.2.2.2.2.2.2.2.2.2.2.2.2.2.2.2.2.2.out.1
  clear hHeld
  go_wp2
  go_ret
  exact ⟨rfl, hB⟩

set_option maxHeartbeats 4000000 in
set_option maxRecDepth 100000 in
theorem active_no (m : M) (o r : Int) (w : World) (hT : Tb w) (hs : ¬ m.sh = 1) :
    Calls Tryd.prog 10 #[.agg #[.bool m.f0, .bool m.f1, .bool m.f2, .bool m.f3, .bool m.f4, .bool m.f5, .bool m.f6, .bool m.f7, .int .u8 m.s0, .int .u8 m.s1, .int .i64 m.sh], .int .u8 o, .int .i32 r] w fun e w' => e = .returned (.bool true) ∧ Below w.heap.size w w' := by
  have GA := Lib.hid (awake_at hT)
  have es : (m.sh == 1) = false := by simp [hs]
  obtain ⟨y, hy⟩ : ∃ y, mapc (act m) r = y := ⟨_, rfl⟩
  obtain ⟨n, hn⟩ : ∃ n : M, { m with s1 := o } = n := ⟨_, rfl⟩
  obtain ⟨s, hs'⟩ : ∃ s : M, { m with s0 := m.s1, s1 := m.s0, sh := 1 } = s := ⟨_, rfl⟩
  have an : act n = act m := by subst hn; unfold act; simp [hs]
  have ac : act s = act m := by subst hs'; unfold act; simp [hs]
  have G1 := Lib.hid (map_at hT m r y hy)
  have G2 := Lib.hid (map_at hT n r y (by rw [an]; exact hy))
  have G3 := Lib.hid (map_at hT s r y (by rw [ac]; exact hy))
  have HNM := Lib.hid hn
  have HSM := Lib.hid hs'
  have eyy : (y == y) = true := by simp
  clear hT hs hy hn hs' an ac
  go_enter Tryd.func10, Tryd.ntmps10
  go_wp2_with fail

  have K0 : Mm w (((w.alloc (.cells #[.bool m.f0, .bool m.f1, .bool m.f2, .bool m.f3, .bool m.f4, .bool m.f5, .bool m.f6, .bool m.f7, .int .u8 m.s0, .int .u8 m.s1, .int .i64 m.sh] 24)).alloc (.cells #[.bool m.f0, .bool m.f1, .bool m.f2, .bool m.f3, .bool m.f4, .bool m.f5, .bool m.f6, .bool m.f7, .int .u8 m.s0, .int .u8 o, .int .i64 m.sh] 24)).alloc (.cells #[.bool m.f0, .bool m.f1, .bool m.f2, .bool m.f3, .bool m.f4, .bool m.f5, .bool m.f6, .bool m.f7, .int .u8 m.s0, .int .u8 m.s1, .int .i64 m.sh] 24)) [(w.heap.size, m), (w.heap.size + 1, { m with s1 := o }), (w.heap.size + 1 + 1, m)] := Mm.three w m { m with s1 := o }
  rw [HNM.out] at K0
  generalize (((w.alloc (.cells #[.bool m.f0, .bool m.f1, .bool m.f2, .bool m.f3, .bool m.f4, .bool m.f5, .bool m.f6, .bool m.f7, .int .u8 m.s0, .int .u8 m.s1, .int .i64 m.sh] 24)).alloc (.cells #[.bool m.f0, .bool m.f1, .bool m.f2, .bool m.f3, .bool m.f4, .bool m.f5, .bool m.f6, .bool m.f7, .int .u8 m.s0, .int .u8 o, .int .i64 m.sh] 24)).alloc (.cells #[.bool m.f0, .bool m.f1, .bool m.f2, .bool m.f3, .bool m.f4, .bool m.f5, .bool m.f6, .bool m.f7, .int .u8 m.s0, .int .u8 m.s1, .int .i64 m.sh] 24)) = V at K0 ⊢
  have KH := Lib.hid K0
  obtain ⟨_, _, _, _, _, _, _, _, u8, u9, u10⟩ := (K0.at 0 rfl).all
  obtain ⟨_, _, _, _, _, _, _, _, v8, v9, v10⟩ := (K0.at 2 rfl).all
  have z8 := (K0.at 2 rfl).z 8
  have z9 := (K0.at 2 rfl).z 9
  have z10 := (K0.at 2 rfl).z 10
  have n1 : w.heap.size ≠ w.heap.size + 1 + 1 := by omega
  have n2 : w.heap.size + 1 + 1 ≠ w.heap.size := by omega
  have sS : ∀ {U : World} (j : Nat) (v : Value), (U.cell? ⟨w.heap.size, 8, none⟩ = some (.int .u8 m.s0) ∧ U.cell? ⟨w.heap.size, 9, none⟩ = some (.int .u8 m.s1)) → ((U.setCell ⟨w.heap.size + 1 + 1, j, none⟩ v).cell? ⟨w.heap.size, 8, none⟩ = some (.int .u8 m.s0) ∧ (U.setCell ⟨w.heap.size + 1 + 1, j, none⟩ v).cell? ⟨w.heap.size, 9, none⟩ = some (.int .u8 m.s1)) := fun {U} j v hs => ⟨(World.cell?_of_block (a := ⟨w.heap.size, 8, none⟩) (heap_setCell_other U ⟨w.heap.size + 1 + 1, j, none⟩ _ v n1)).trans hs.1, (World.cell?_of_block (a := ⟨w.heap.size, 9, none⟩) (heap_setCell_other U ⟨w.heap.size + 1 + 1, j, none⟩ _ v n1)).trans hs.2⟩
  have hS : V.drew.cell? ⟨w.heap.size, 8, none⟩ = some (.int .u8 m.s0) ∧ V.drew.cell? ⟨w.heap.size, 9, none⟩ = some (.int .u8 m.s1) := ⟨u8, u9⟩
  clear K0
  go_region_held3 (fun U => U.cell? ⟨w.heap.size, 8, none⟩ = some (.int .u8 m.s0) ∧ U.cell? ⟨w.heap.size, 9, none⟩ = some (.int .u8 m.s1))
    (first | assumption | (refine sS _ _ ?_; assumption) | (refine sS _ _ ?_; refine sS _ _ ?_; assumption))
    (fail)
  clear sS hS
  go_wp2_with fail
  have n3 : w.heap.size + 1 ≠ w.heap.size + 1 + 1 := by omega
  have E : Md (((V.setCell ⟨w.heap.size + 1 + 1, 8, none⟩ (.int .u8 m.s1)).setCell ⟨w.heap.size + 1 + 1, 9, none⟩ (.int .u8 m.s0)).setCell ⟨w.heap.size + 1 + 1, 10, none⟩ (.int .i64 1)) (w.heap.size + 1 + 1) { m with s0 := m.s1, s1 := m.s0, sh := 1 } := ((((KH.out.at 2 rfl).s8 m.s1).s9 m.s0).s10 1)
  rw [HSM.out] at E
  have K1 : Mm w (((V.setCell ⟨w.heap.size + 1 + 1, 8, none⟩ (.int .u8 m.s1)).setCell ⟨w.heap.size + 1 + 1, 9, none⟩ (.int .u8 m.s0)).setCell ⟨w.heap.size + 1 + 1, 10, none⟩ (.int .i64 1)) [(w.heap.size, m), (w.heap.size + 1, n), (w.heap.size + 1 + 1, s)] := by
    refine ⟨(((KH.out.1.setCell (p := ⟨w.heap.size + 1 + 1, 8, none⟩) (show w.heap.size ≤ w.heap.size + 1 + 1 by omega) _).setCell (p := ⟨w.heap.size + 1 + 1, 9, none⟩) (show w.heap.size ≤ w.heap.size + 1 + 1 by omega) _).setCell (p := ⟨w.heap.size + 1 + 1, 10, none⟩) (show w.heap.size ≤ w.heap.size + 1 + 1 by omega) _), fun x hx => ?_⟩
    simp only [List.mem_cons, List.not_mem_nil, or_false] at hx
    rcases hx with rfl | rfl | rfl
    · exact ((((KH.out.at 0 rfl).other n1 _).other n1 _).other n1 _)
    · exact ((((KH.out.at 1 rfl).other n3 _).other n3 _).other n3 _)
    · exact E
  clear E KH u8 u9 u10 v8 v9 v10 z8 z9 z10 n1 n2 n3 HNM HSM es
  generalize (((V.setCell ⟨w.heap.size + 1 + 1, 8, none⟩ (.int .u8 m.s1)).setCell ⟨w.heap.size + 1 + 1, 9, none⟩ (.int .u8 m.s0)).setCell ⟨w.heap.size + 1 + 1, 10, none⟩ (.int .i64 1)) = V2 at K1 ⊢
  have key0 : ∀ U, Mm w U [(w.heap.size, m), (w.heap.size + 1, n), (w.heap.size + 1 + 1, s)] → (U.cell? ⟨w.heap.size, 0, none⟩ = some (.bool m.f0) ∧ U.cell? ⟨w.heap.size, 1, none⟩ = some (.bool m.f1) ∧ U.cell? ⟨w.heap.size, 2, none⟩ = some (.bool m.f2) ∧ U.cell? ⟨w.heap.size, 3, none⟩ = some (.bool m.f3) ∧ U.cell? ⟨w.heap.size, 4, none⟩ = some (.bool m.f4) ∧ U.cell? ⟨w.heap.size, 5, none⟩ = some (.bool m.f5) ∧ U.cell? ⟨w.heap.size, 6, none⟩ = some (.bool m.f6) ∧ U.cell? ⟨w.heap.size, 7, none⟩ = some (.bool m.f7) ∧ U.cell? ⟨w.heap.size, 8, none⟩ = some (.int .u8 m.s0) ∧ U.cell? ⟨w.heap.size, 9, none⟩ = some (.int .u8 m.s1) ∧ U.cell? ⟨w.heap.size, 10, none⟩ = some (.int .i64 m.sh) ∧ U.cell? ⟨w.heap.size + 1, 0, none⟩ = some (.bool n.f0) ∧ U.cell? ⟨w.heap.size + 1, 1, none⟩ = some (.bool n.f1) ∧ U.cell? ⟨w.heap.size + 1, 2, none⟩ = some (.bool n.f2) ∧ U.cell? ⟨w.heap.size + 1, 3, none⟩ = some (.bool n.f3) ∧ U.cell? ⟨w.heap.size + 1, 4, none⟩ = some (.bool n.f4) ∧ U.cell? ⟨w.heap.size + 1, 5, none⟩ = some (.bool n.f5) ∧ U.cell? ⟨w.heap.size + 1, 6, none⟩ = some (.bool n.f6) ∧ U.cell? ⟨w.heap.size + 1, 7, none⟩ = some (.bool n.f7) ∧ U.cell? ⟨w.heap.size + 1, 8, none⟩ = some (.int .u8 n.s0) ∧ U.cell? ⟨w.heap.size + 1, 9, none⟩ = some (.int .u8 n.s1) ∧ U.cell? ⟨w.heap.size + 1, 10, none⟩ = some (.int .i64 n.sh) ∧ U.cell? ⟨w.heap.size + 1 + 1, 0, none⟩ = some (.bool s.f0) ∧ U.cell? ⟨w.heap.size + 1 + 1, 1, none⟩ = some (.bool s.f1) ∧ U.cell? ⟨w.heap.size + 1 + 1, 2, none⟩ = some (.bool s.f2) ∧ U.cell? ⟨w.heap.size + 1 + 1, 3, none⟩ = some (.bool s.f3) ∧ U.cell? ⟨w.heap.size + 1 + 1, 4, none⟩ = some (.bool s.f4) ∧ U.cell? ⟨w.heap.size + 1 + 1, 5, none⟩ = some (.bool s.f5) ∧ U.cell? ⟨w.heap.size + 1 + 1, 6, none⟩ = some (.bool s.f6) ∧ U.cell? ⟨w.heap.size + 1 + 1, 7, none⟩ = some (.bool s.f7) ∧ U.cell? ⟨w.heap.size + 1 + 1, 8, none⟩ = some (.int .u8 s.s0) ∧ U.cell? ⟨w.heap.size + 1 + 1, 9, none⟩ = some (.int .u8 s.s1) ∧ U.cell? ⟨w.heap.size + 1 + 1, 10, none⟩ = some (.int .i64 s.sh) ∧ Aside (Mm w U [(w.heap.size, m), (w.heap.size + 1, n), (w.heap.size + 1 + 1, s)])) := fun U k => by
    obtain ⟨a0_0, a0_1, a0_2, a0_3, a0_4, a0_5, a0_6, a0_7, a0_8, a0_9, a0_10⟩ := (k.at 0 rfl).all
    obtain ⟨a1_0, a1_1, a1_2, a1_3, a1_4, a1_5, a1_6, a1_7, a1_8, a1_9, a1_10⟩ := (k.at 1 rfl).all
    obtain ⟨a2_0, a2_1, a2_2, a2_3, a2_4, a2_5, a2_6, a2_7, a2_8, a2_9, a2_10⟩ := (k.at 2 rfl).all
    exact ⟨a0_0, a0_1, a0_2, a0_3, a0_4, a0_5, a0_6, a0_7, a0_8, a0_9, a0_10, a1_0, a1_1, a1_2, a1_3, a1_4, a1_5, a1_6, a1_7, a1_8, a1_9, a1_10, a2_0, a2_1, a2_2, a2_3, a2_4, a2_5, a2_6, a2_7, a2_8, a2_9, a2_10, k⟩
  have HKEEP : Hid (∀ (U U' : World), (U.cell? ⟨w.heap.size, 0, none⟩ = some (.bool m.f0) ∧ U.cell? ⟨w.heap.size, 1, none⟩ = some (.bool m.f1) ∧ U.cell? ⟨w.heap.size, 2, none⟩ = some (.bool m.f2) ∧ U.cell? ⟨w.heap.size, 3, none⟩ = some (.bool m.f3) ∧ U.cell? ⟨w.heap.size, 4, none⟩ = some (.bool m.f4) ∧ U.cell? ⟨w.heap.size, 5, none⟩ = some (.bool m.f5) ∧ U.cell? ⟨w.heap.size, 6, none⟩ = some (.bool m.f6) ∧ U.cell? ⟨w.heap.size, 7, none⟩ = some (.bool m.f7) ∧ U.cell? ⟨w.heap.size, 8, none⟩ = some (.int .u8 m.s0) ∧ U.cell? ⟨w.heap.size, 9, none⟩ = some (.int .u8 m.s1) ∧ U.cell? ⟨w.heap.size, 10, none⟩ = some (.int .i64 m.sh) ∧ U.cell? ⟨w.heap.size + 1, 0, none⟩ = some (.bool n.f0) ∧ U.cell? ⟨w.heap.size + 1, 1, none⟩ = some (.bool n.f1) ∧ U.cell? ⟨w.heap.size + 1, 2, none⟩ = some (.bool n.f2) ∧ U.cell? ⟨w.heap.size + 1, 3, none⟩ = some (.bool n.f3) ∧ U.cell? ⟨w.heap.size + 1, 4, none⟩ = some (.bool n.f4) ∧ U.cell? ⟨w.heap.size + 1, 5, none⟩ = some (.bool n.f5) ∧ U.cell? ⟨w.heap.size + 1, 6, none⟩ = some (.bool n.f6) ∧ U.cell? ⟨w.heap.size + 1, 7, none⟩ = some (.bool n.f7) ∧ U.cell? ⟨w.heap.size + 1, 8, none⟩ = some (.int .u8 n.s0) ∧ U.cell? ⟨w.heap.size + 1, 9, none⟩ = some (.int .u8 n.s1) ∧ U.cell? ⟨w.heap.size + 1, 10, none⟩ = some (.int .i64 n.sh) ∧ U.cell? ⟨w.heap.size + 1 + 1, 0, none⟩ = some (.bool s.f0) ∧ U.cell? ⟨w.heap.size + 1 + 1, 1, none⟩ = some (.bool s.f1) ∧ U.cell? ⟨w.heap.size + 1 + 1, 2, none⟩ = some (.bool s.f2) ∧ U.cell? ⟨w.heap.size + 1 + 1, 3, none⟩ = some (.bool s.f3) ∧ U.cell? ⟨w.heap.size + 1 + 1, 4, none⟩ = some (.bool s.f4) ∧ U.cell? ⟨w.heap.size + 1 + 1, 5, none⟩ = some (.bool s.f5) ∧ U.cell? ⟨w.heap.size + 1 + 1, 6, none⟩ = some (.bool s.f6) ∧ U.cell? ⟨w.heap.size + 1 + 1, 7, none⟩ = some (.bool s.f7) ∧ U.cell? ⟨w.heap.size + 1 + 1, 8, none⟩ = some (.int .u8 s.s0) ∧ U.cell? ⟨w.heap.size + 1 + 1, 9, none⟩ = some (.int .u8 s.s1) ∧ U.cell? ⟨w.heap.size + 1 + 1, 10, none⟩ = some (.int .i64 s.sh) ∧ Aside (Mm w U [(w.heap.size, m), (w.heap.size + 1, n), (w.heap.size + 1 + 1, s)])) → Below U.heap.size U U' → (U'.cell? ⟨w.heap.size, 0, none⟩ = some (.bool m.f0) ∧ U'.cell? ⟨w.heap.size, 1, none⟩ = some (.bool m.f1) ∧ U'.cell? ⟨w.heap.size, 2, none⟩ = some (.bool m.f2) ∧ U'.cell? ⟨w.heap.size, 3, none⟩ = some (.bool m.f3) ∧ U'.cell? ⟨w.heap.size, 4, none⟩ = some (.bool m.f4) ∧ U'.cell? ⟨w.heap.size, 5, none⟩ = some (.bool m.f5) ∧ U'.cell? ⟨w.heap.size, 6, none⟩ = some (.bool m.f6) ∧ U'.cell? ⟨w.heap.size, 7, none⟩ = some (.bool m.f7) ∧ U'.cell? ⟨w.heap.size, 8, none⟩ = some (.int .u8 m.s0) ∧ U'.cell? ⟨w.heap.size, 9, none⟩ = some (.int .u8 m.s1) ∧ U'.cell? ⟨w.heap.size, 10, none⟩ = some (.int .i64 m.sh) ∧ U'.cell? ⟨w.heap.size + 1, 0, none⟩ = some (.bool n.f0) ∧ U'.cell? ⟨w.heap.size + 1, 1, none⟩ = some (.bool n.f1) ∧ U'.cell? ⟨w.heap.size + 1, 2, none⟩ = some (.bool n.f2) ∧ U'.cell? ⟨w.heap.size + 1, 3, none⟩ = some (.bool n.f3) ∧ U'.cell? ⟨w.heap.size + 1, 4, none⟩ = some (.bool n.f4) ∧ U'.cell? ⟨w.heap.size + 1, 5, none⟩ = some (.bool n.f5) ∧ U'.cell? ⟨w.heap.size + 1, 6, none⟩ = some (.bool n.f6) ∧ U'.cell? ⟨w.heap.size + 1, 7, none⟩ = some (.bool n.f7) ∧ U'.cell? ⟨w.heap.size + 1, 8, none⟩ = some (.int .u8 n.s0) ∧ U'.cell? ⟨w.heap.size + 1, 9, none⟩ = some (.int .u8 n.s1) ∧ U'.cell? ⟨w.heap.size + 1, 10, none⟩ = some (.int .i64 n.sh) ∧ U'.cell? ⟨w.heap.size + 1 + 1, 0, none⟩ = some (.bool s.f0) ∧ U'.cell? ⟨w.heap.size + 1 + 1, 1, none⟩ = some (.bool s.f1) ∧ U'.cell? ⟨w.heap.size + 1 + 1, 2, none⟩ = some (.bool s.f2) ∧ U'.cell? ⟨w.heap.size + 1 + 1, 3, none⟩ = some (.bool s.f3) ∧ U'.cell? ⟨w.heap.size + 1 + 1, 4, none⟩ = some (.bool s.f4) ∧ U'.cell? ⟨w.heap.size + 1 + 1, 5, none⟩ = some (.bool s.f5) ∧ U'.cell? ⟨w.heap.size + 1 + 1, 6, none⟩ = some (.bool s.f6) ∧ U'.cell? ⟨w.heap.size + 1 + 1, 7, none⟩ = some (.bool s.f7) ∧ U'.cell? ⟨w.heap.size + 1 + 1, 8, none⟩ = some (.int .u8 s.s0) ∧ U'.cell? ⟨w.heap.size + 1 + 1, 9, none⟩ = some (.int .u8 s.s1) ∧ U'.cell? ⟨w.heap.size + 1 + 1, 10, none⟩ = some (.int .i64 s.sh) ∧ Aside (Mm w U' [(w.heap.size, m), (w.heap.size + 1, n), (w.heap.size + 1 + 1, s)]))) := Lib.hid (fun U U' hs hu => key0 U' (hs.2.2.2.2.2.2.2.2.2.2.2.2.2.2.2.2.2.2.2.2.2.2.2.2.2.2.2.2.2.2.2.2.2.out.below hu))
  have hS := key0 V2.drew.drew ((K1.below (Below.refl _ _).drew).below (Below.refl _ _).drew)
  clear key0
  clear K1
  refine wp_region_held_drew (S := fun U => U.cell? ⟨w.heap.size, 0, none⟩ = some (.bool m.f0) ∧ U.cell? ⟨w.heap.size, 1, none⟩ = some (.bool m.f1) ∧ U.cell? ⟨w.heap.size, 2, none⟩ = some (.bool m.f2) ∧ U.cell? ⟨w.heap.size, 3, none⟩ = some (.bool m.f3) ∧ U.cell? ⟨w.heap.size, 4, none⟩ = some (.bool m.f4) ∧ U.cell? ⟨w.heap.size, 5, none⟩ = some (.bool m.f5) ∧ U.cell? ⟨w.heap.size, 6, none⟩ = some (.bool m.f6) ∧ U.cell? ⟨w.heap.size, 7, none⟩ = some (.bool m.f7) ∧ U.cell? ⟨w.heap.size, 8, none⟩ = some (.int .u8 m.s0) ∧ U.cell? ⟨w.heap.size, 9, none⟩ = some (.int .u8 m.s1) ∧ U.cell? ⟨w.heap.size, 10, none⟩ = some (.int .i64 m.sh) ∧ U.cell? ⟨w.heap.size + 1, 0, none⟩ = some (.bool n.f0) ∧ U.cell? ⟨w.heap.size + 1, 1, none⟩ = some (.bool n.f1) ∧ U.cell? ⟨w.heap.size + 1, 2, none⟩ = some (.bool n.f2) ∧ U.cell? ⟨w.heap.size + 1, 3, none⟩ = some (.bool n.f3) ∧ U.cell? ⟨w.heap.size + 1, 4, none⟩ = some (.bool n.f4) ∧ U.cell? ⟨w.heap.size + 1, 5, none⟩ = some (.bool n.f5) ∧ U.cell? ⟨w.heap.size + 1, 6, none⟩ = some (.bool n.f6) ∧ U.cell? ⟨w.heap.size + 1, 7, none⟩ = some (.bool n.f7) ∧ U.cell? ⟨w.heap.size + 1, 8, none⟩ = some (.int .u8 n.s0) ∧ U.cell? ⟨w.heap.size + 1, 9, none⟩ = some (.int .u8 n.s1) ∧ U.cell? ⟨w.heap.size + 1, 10, none⟩ = some (.int .i64 n.sh) ∧ U.cell? ⟨w.heap.size + 1 + 1, 0, none⟩ = some (.bool s.f0) ∧ U.cell? ⟨w.heap.size + 1 + 1, 1, none⟩ = some (.bool s.f1) ∧ U.cell? ⟨w.heap.size + 1 + 1, 2, none⟩ = some (.bool s.f2) ∧ U.cell? ⟨w.heap.size + 1 + 1, 3, none⟩ = some (.bool s.f3) ∧ U.cell? ⟨w.heap.size + 1 + 1, 4, none⟩ = some (.bool s.f4) ∧ U.cell? ⟨w.heap.size + 1 + 1, 5, none⟩ = some (.bool s.f5) ∧ U.cell? ⟨w.heap.size + 1 + 1, 6, none⟩ = some (.bool s.f6) ∧ U.cell? ⟨w.heap.size + 1 + 1, 7, none⟩ = some (.bool s.f7) ∧ U.cell? ⟨w.heap.size + 1 + 1, 8, none⟩ = some (.int .u8 s.s0) ∧ U.cell? ⟨w.heap.size + 1 + 1, 9, none⟩ = some (.int .u8 s.s1) ∧ U.cell? ⟨w.heap.size + 1 + 1, 10, none⟩ = some (.int .i64 s.sh) ∧ Aside (Mm w U [(w.heap.size, m), (w.heap.size + 1, n), (w.heap.size + 1 + 1, s)])) (by kernel_rfl) hS (fun hHeld => ?_)
  clear hS
  refine wpAnyH_take (i := 0) (v := ?_) rfl (by kernel_rfl) (by kernel_rfl) (by kernel_rfl) (fun _ _ _ h => h) (Or.inl ⟨by rfl, ?_⟩) (by assumption) ?_
  rotate_left
  · (intro W hSw; (try dsimp only at hSw); go_simp; try with_reducible rfl)
  simp only [Act.put, List.getElem_toArray, List.getElem_cons_zero, List.setIfInBounds_toArray, List.set_cons_zero, List.set_cons_succ]
  refine wpAnyH_take (i := 1) (v := ?_) rfl (by kernel_rfl) (by kernel_rfl) (by kernel_rfl) (fun _ _ _ h => h) (Or.inl ⟨by rfl, ?_⟩) (by assumption) ?_
  rotate_left
  · (intro W hSw; (try dsimp only at hSw); go_simp; try with_reducible rfl)
  simp only [Act.put, List.getElem_toArray, List.getElem_cons_succ, List.getElem_cons_zero, List.setIfInBounds_toArray, List.set_cons_zero, List.set_cons_succ]
  refine wpAnyH_take (i := 3) (v := ?_) rfl (by kernel_rfl) (by kernel_rfl) (by kernel_rfl) (fun _ _ _ h => h) (Or.inl ⟨by rfl, ?_⟩) (by assumption) ?_
  rotate_left
  · (intro W hSw; (try dsimp only at hSw); go_simp; try with_reducible rfl)
  simp only [Act.put, List.getElem_toArray, List.getElem_cons_succ, List.getElem_cons_zero, List.setIfInBounds_toArray, List.set_cons_zero, List.set_cons_succ]
  refine wpAnyH_take (i := 4) (v := ?_) rfl (by kernel_rfl) (by kernel_rfl) (by kernel_rfl) (fun _ _ _ h => h) (Or.inl ⟨by rfl, ?_⟩) (by assumption) ?_
  rotate_left
  · (intro W hSw; (try dsimp only at hSw); go_simp; try with_reducible rfl)
  simp only [Act.put, List.getElem_toArray, List.getElem_cons_succ, List.getElem_cons_zero, List.setIfInBounds_toArray, List.set_cons_zero, List.set_cons_succ]
  refine wpAnyH_ready (rs := [2]) (by kernel_rfl) (by simp) ?_
  refine AllReadyH.cons rfl (fun K hK => ?_) AllReadyH.nil
  go_simp
  have hU := hHeld.2.2.2.2.2.2.2.2.2.2.2.2.2.2.2.2.2.2.2.2.2.2.2.2.2.2.2.2.2.2.2.2.2.out.1; (with_reducible refine (G1.out _ hU).mono ?_); clear hU; rintro e w' ⟨rfl, hb'⟩; have hs' := HKEEP.out _ _ hHeld hb'; clear hHeld hb'
  refine hK.out _ _ hs' (fun hHeld => ?_)
  clear hK K hs'
  refine wpAnyH_ready (rs := [5]) (by kernel_rfl) (by simp) ?_
  refine AllReadyH.cons rfl (fun K hK => ?_) AllReadyH.nil
  go_simp
  have hU := hHeld.2.2.2.2.2.2.2.2.2.2.2.2.2.2.2.2.2.2.2.2.2.2.2.2.2.2.2.2.2.2.2.2.2.out.1; (with_reducible refine (G2.out _ hU).mono ?_); clear hU; rintro e w' ⟨rfl, hb'⟩; have hs' := HKEEP.out _ _ hHeld hb'; clear hHeld hb'
  refine hK.out _ _ hs' (fun hHeld => ?_)
  clear hK K hs'
  refine wpAnyH_take (i := 6) (v := ?_) rfl (by kernel_rfl) (by kernel_rfl) (by kernel_rfl) (fun _ _ _ h => h) (Or.inl ⟨by rfl, ?_⟩) (by assumption) ?_
  rotate_left
  · (intro W hSw; (try dsimp only at hSw); go_simp; try with_reducible rfl)
  simp only [Act.put, List.getElem_toArray, List.getElem_cons_succ, List.getElem_cons_zero, List.setIfInBounds_toArray, List.set_cons_zero, List.set_cons_succ]
  refine wpAnyH_take (i := 7) (v := ?_) rfl (by kernel_rfl) (by kernel_rfl) (by kernel_rfl) (fun _ _ _ h => h) (Or.inl ⟨by rfl, ?_⟩) (by assumption) ?_
  rotate_left
  · (intro W hSw; (try dsimp only at hSw); go_simp; try with_reducible rfl)
  simp only [Act.put, List.getElem_toArray, List.getElem_cons_succ, List.getElem_cons_zero, List.setIfInBounds_toArray, List.set_cons_zero, List.set_cons_succ]
  refine wpAnyH_take (i := 8) (v := ?_) rfl (by kernel_rfl) (by kernel_rfl) (by kernel_rfl) (fun _ _ _ h => h) (Or.inl ⟨by rfl, ?_⟩) (by assumption) ?_
  rotate_left
  · (intro W hSw; (try dsimp only at hSw); go_simp; try with_reducible rfl)
  simp only [Act.put, List.getElem_toArray, List.getElem_cons_succ, List.getElem_cons_zero, List.setIfInBounds_toArray, List.set_cons_zero, List.set_cons_succ]
  refine wpAnyH_take (i := 9) (v := ?_) rfl (by kernel_rfl) (by kernel_rfl) (by kernel_rfl) (fun _ _ _ h => h) (Or.inl ⟨by rfl, ?_⟩) (by assumption) ?_
  rotate_left
  · (intro W hSw; (try dsimp only at hSw); go_simp; try with_reducible rfl)
  simp only [Act.put, List.getElem_toArray, List.getElem_cons_succ, List.getElem_cons_zero, List.setIfInBounds_toArray, List.set_cons_zero, List.set_cons_succ]
  refine wpAnyH_take (i := 11) (v := ?_) rfl (by kernel_rfl) (by kernel_rfl) (by kernel_rfl) (fun _ _ _ h => h) (Or.inl ⟨by rfl, ?_⟩) (by assumption) ?_
  rotate_left
  · (intro W hSw; (try dsimp only at hSw); go_simp; try with_reducible rfl)
  simp only [Act.put, List.getElem_toArray, List.getElem_cons_succ, List.getElem_cons_zero, List.setIfInBounds_toArray, List.set_cons_zero, List.set_cons_succ]
  refine wpAnyH_take (i := 12) (v := ?_) rfl (by kernel_rfl) (by kernel_rfl) (by kernel_rfl) (fun _ _ _ h => h) (Or.inl ⟨by rfl, ?_⟩) (by assumption) ?_
  rotate_left
  · (intro W hSw; (try dsimp only at hSw); go_simp; try with_reducible rfl)
  simp only [Act.put, List.getElem_toArray, List.getElem_cons_succ, List.getElem_cons_zero, List.setIfInBounds_toArray, List.set_cons_zero, List.set_cons_succ]
  refine wpAnyH_ready (rs := [10]) (by kernel_rfl) (by simp) ?_
  refine AllReadyH.cons rfl (fun K hK => ?_) AllReadyH.nil
  go_simp
  have hU := hHeld.2.2.2.2.2.2.2.2.2.2.2.2.2.2.2.2.2.2.2.2.2.2.2.2.2.2.2.2.2.2.2.2.2.out.1; (with_reducible refine (G1.out _ hU).mono ?_); clear hU; rintro e w' ⟨rfl, hb'⟩; have hs' := HKEEP.out _ _ hHeld hb'; clear hHeld hb'
  refine hK.out _ _ hs' (fun hHeld => ?_)
  clear hK K hs'
  refine wpAnyH_ready (rs := [13]) (by kernel_rfl) (by simp) ?_
  refine AllReadyH.cons rfl (fun K hK => ?_) AllReadyH.nil
  go_simp
  have hU := hHeld.2.2.2.2.2.2.2.2.2.2.2.2.2.2.2.2.2.2.2.2.2.2.2.2.2.2.2.2.2.2.2.2.2.out.1; (with_reducible refine (G3.out _ hU).mono ?_); clear hU; rintro e w' ⟨rfl, hb'⟩; have hs' := HKEEP.out _ _ hHeld hb'; clear hHeld hb'
  refine hK.out _ _ hs' (fun hHeld => ?_)
  clear hK K hs'
  refine wpAnyH_take (i := 14) (v := ?_) rfl (by kernel_rfl) (by kernel_rfl) (by kernel_rfl) (fun _ _ _ h => h) (Or.inl ⟨by rfl, ?_⟩) (by assumption) ?_
  rotate_left
  · (intro W hSw; (try dsimp only at hSw); go_simp; try with_reducible rfl)
  simp only [Act.put, List.getElem_toArray, List.getElem_cons_succ, List.getElem_cons_zero, List.setIfInBounds_toArray, List.set_cons_zero, List.set_cons_succ]
  refine wpAnyH_take (i := 15) (v := ?_) rfl (by kernel_rfl) (by kernel_rfl) (by kernel_rfl) (fun _ _ _ h => h) (Or.inl ⟨by rfl, ?_⟩) (by assumption) ?_
  rotate_left
  · (intro W hSw; (try dsimp only at hSw); go_simp; try with_reducible rfl)
  simp only [Act.put, List.getElem_toArray, List.getElem_cons_succ, List.getElem_cons_zero, List.setIfInBounds_toArray, List.set_cons_zero, List.set_cons_succ]
  refine wpAnyH_take (i := 16) (v := ?_) rfl (by kernel_rfl) (by kernel_rfl) (by kernel_rfl) (fun _ _ _ h => h) (Or.inl ⟨by rfl, ?_⟩) (by assumption) ?_
  rotate_left
  · (intro W hSw; (try dsimp only at hSw); go_simp; try with_reducible rfl)
  simp only [Act.put, List.getElem_toArray, List.getElem_cons_succ, List.getElem_cons_zero, List.setIfInBounds_toArray, List.set_cons_zero, List.set_cons_succ]
  refine wpAnyH_ready (rs := [17]) (by kernel_rfl) (by simp) ?_
  refine AllReadyH.cons rfl (fun K hK => ?_) AllReadyH.nil
  go_simp
  have hU := hHeld.2.2.2.2.2.2.2.2.2.2.2.2.2.2.2.2.2.2.2.2.2.2.2.2.2.2.2.2.2.2.2.2.2.out.1; (with_reducible refine (GA.out _ hU).mono ?_); clear hU; rintro e w' ⟨rfl, hb'⟩; have hs' := HKEEP.out _ _ hHeld hb'; clear hHeld hb'
  refine hK.out _ _ hs' (fun hHeld => ?_)
  clear hK K hs'
  refine wpAnyH_take (i := 18) (v := ?_) rfl (by kernel_rfl) (by kernel_rfl) (by kernel_rfl) (fun _ _ _ h => h) (Or.inl ⟨by rfl, ?_⟩) (by assumption) ?_
  rotate_left
  · (intro W hSw; (try dsimp only at hSw); go_simp; try with_reducible rfl)
  simp only [Act.put, List.getElem_toArray, List.getElem_cons_succ, List.getElem_cons_zero, List.setIfInBounds_toArray, List.set_cons_zero, List.set_cons_succ]
  refine wpAnyH_take (i := 19) (v := ?_) rfl (by kernel_rfl) (by kernel_rfl) (by kernel_rfl) (fun _ _ _ h => h) (Or.inl ⟨by rfl, ?_⟩) (by assumption) ?_
  rotate_left
  · (intro W hSw; (try dsimp only at hSw); go_simp; try with_reducible rfl)
  simp only [Act.put, List.getElem_toArray, List.getElem_cons_succ, List.getElem_cons_zero, List.setIfInBounds_toArray, List.set_cons_zero, List.set_cons_succ]
  refine wpAnyH_done (by kernel_rfl) ?_ _
  have hB := hHeld.2.2.2.2.2.2.2.2.2.2.2.2.2.2.2.2.2.2.2.2.2.2.2.2.2.2.2.2.2.2.2.2.2.out.1
  clear hHeld
  go_wp2
  go_ret
  exact ⟨rfl, hB⟩

theorem active_walk (m : M) (o r : Int) (w : World) (hT : Tb w) :
    Calls Tryd.prog 10 #[.agg #[.bool m.f0, .bool m.f1, .bool m.f2, .bool m.f3, .bool m.f4, .bool m.f5, .bool m.f6, .bool m.f7, .int .u8 m.s0, .int .u8 m.s1, .int .i64 m.sh], .int .u8 o, .int .i32 r] w fun e w' => e = .returned (.bool true) ∧ Below w.heap.size w w' := by
  by_cases h : m.sh = 1
  · exact active_yes m o r w hT h
  · exact active_no m o r w hT h

end Go.Proofs.YtgnkbcflkalhjaaDoor
