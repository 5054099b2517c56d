/-
  The statement of layer 11 on New and Set: the walk.
-/
import Derived.Test.YtgnkbcflkalhjaaDoorMoMem
import Derived.Test.YtgnkbcflkalhjaaDoorMoRefSet
import Derived.Deep.RegionHeld3
namespace Go.Proofs.YtgnkbcflkalhjaaDoor
open Go.RowKit Mo


theorem refSet_at {w : World} {A : Option Addr} {n c : Nat} {l : List Int} (m x : M) (p : Int) (on : Bool) (hl : n ≤ 1000) (hN : Nums w w.heap.size A n l) (hx : set m p l on = x) (U : World) (hU : Below w.heap.size w U) :
    Calls Tryd.prog 15 #[.agg #[.bool m.f0, .bool m.f1, .bool m.f2, .bool m.f3, .bool m.f4, .bool m.f5, .bool m.f6, .bool m.f7, .int .u8 m.s0, .int .u8 m.s1, .int .i64 m.sh], .int .u8 p, .slice A n c, .bool on] U fun e w' => e = .returned (.agg #[.bool x.f0, .bool x.f1, .bool x.f2, .bool x.f3, .bool x.f4, .bool x.f5, .bool x.f6, .bool x.f7, .int .u8 x.s0, .int .u8 x.s1, .int .i64 x.sh]) ∧ Below U.heap.size U w' :=
  refSet_any m x p on A n c w.heap.size l hl U (hN.below hU (Nat.le_refl _)) hU.size hx

theorem ex_refNew (w : World) : Calls Tryd.prog 13 #[] w fun e w' => e = .returned (.agg #[.bool false, .bool false, .bool false, .bool false, .bool true, .bool true, .bool false, .bool false, .int .u8 66, .int .u8 66, .int .i64 0]) ∧ Below w.heap.size w w' := refNew_any w

set_option maxHeartbeats 4000000 in
set_option maxRecDepth 100000 in
theorem modesSet_walk (m : M) (p : Int) (A : Option Addr) (n c : Nat) (l : List Int) (on : Bool) (w : World) (hN : Nums w w.heap.size A n l) (hT : Tb w) :
    Calls Tryd.prog 3 #[.agg #[.bool m.f0, .bool m.f1, .bool m.f2, .bool m.f3, .bool m.f4, .bool m.f5, .bool m.f6, .bool m.f7, .int .u8 m.s0, .int .u8 m.s1, .int .i64 m.sh], .int .u8 p, .slice A n c, .bool on] w fun e w' => e = .returned (.bool true) ∧ Below w.heap.size w w' := by
  have G5 := Lib.hid (awake_at hT)
  have K0 := Lib.hid (Mm.start w m)
  by_cases hlt : 40 < (n : Int)
  · clear hN hT
    go_enter Tryd.func3, Tryd.ntmps3
    go_wp2_with fail
    refine (G5.out _ K0.out.1).mono ?_
    rintro e w1 ⟨rfl, b1⟩
    have B1 := Lib.hid (below_step K0.out.1 b1)
    clear b1
    go_wp2
    go_ret
    exact ⟨rfl, B1.out⟩
  · obtain ⟨x, hx⟩ : ∃ x, set m p l on = x := ⟨_, rfl⟩
    have G1 := Lib.hid (fun U (_ : Below w.heap.size w U) => ex_new U)
    have G2 := Lib.hid (fun U (_ : Below w.heap.size w U) => ex_refNew U)
    have G3 := Lib.hid (set_at (c := c) m x p on (by omega) hN hx)
    have G4 := Lib.hid (refSet_at (c := c) m x p on (by omega) hN hx)
    have eqS := equalIn_same
    have eq2 := Tryd.eqGuardType24
    clear hN hT hx
    go_enter Tryd.func3, Tryd.ntmps3
    go_wp2_with fail
    clear hlt
    generalize w.alloc (.cells #[.bool m.f0, .bool m.f1, .bool m.f2, .bool m.f3, .bool m.f4, .bool m.f5, .bool m.f6, .bool m.f7, .int .u8 m.s0, .int .u8 m.s1, .int .i64 m.sh] 24) = y0 at K0 ⊢
    have key0 : ∀ U, Mm w U [(w.heap.size, m)] → (U.cell? ⟨w.heap.size, 0, none⟩ = some (.bool m.f0) ∧ U.cell? ⟨w.heap.size, 1, none⟩ = some (.bool m.f1) ∧ U.cell? ⟨w.heap.size, 2, none⟩ = some (.bool m.f2) ∧ U.cell? ⟨w.heap.size, 3, none⟩ = some (.bool m.f3) ∧ U.cell? ⟨w.heap.size, 4, none⟩ = some (.bool m.f4) ∧ U.cell? ⟨w.heap.size, 5, none⟩ = some (.bool m.f5) ∧ U.cell? ⟨w.heap.size, 6, none⟩ = some (.bool m.f6) ∧ U.cell? ⟨w.heap.size, 7, none⟩ = some (.bool m.f7) ∧ U.cell? ⟨w.heap.size, 8, none⟩ = some (.int .u8 m.s0) ∧ U.cell? ⟨w.heap.size, 9, none⟩ = some (.int .u8 m.s1) ∧ U.cell? ⟨w.heap.size, 10, none⟩ = some (.int .i64 m.sh) ∧ Aside (Mm w U [(w.heap.size, m)])) := fun U k => by
      obtain ⟨a0_0, a0_1, a0_2, a0_3, a0_4, a0_5, a0_6, a0_7, a0_8, a0_9, a0_10⟩ := (k.at 0 rfl).all
      exact ⟨a0_0, a0_1, a0_2, a0_3, a0_4, a0_5, a0_6, a0_7, a0_8, a0_9, a0_10, k⟩
    have HKEEP : Hid (∀ (U U' : World), (U.cell? ⟨w.heap.size, 0, none⟩ = some (.bool m.f0) ∧ U.cell? ⟨w.heap.size, 1, none⟩ = some (.bool m.f1) ∧ U.cell? ⟨w.heap.size, 2, none⟩ = some (.bool m.f2) ∧ U.cell? ⟨w.heap.size, 3, none⟩ = some (.bool m.f3) ∧ U.cell? ⟨w.heap.size, 4, none⟩ = some (.bool m.f4) ∧ U.cell? ⟨w.heap.size, 5, none⟩ = some (.bool m.f5) ∧ U.cell? ⟨w.heap.size, 6, none⟩ = some (.bool m.f6) ∧ U.cell? ⟨w.heap.size, 7, none⟩ = some (.bool m.f7) ∧ U.cell? ⟨w.heap.size, 8, none⟩ = some (.int .u8 m.s0) ∧ U.cell? ⟨w.heap.size, 9, none⟩ = some (.int .u8 m.s1) ∧ U.cell? ⟨w.heap.size, 10, none⟩ = some (.int .i64 m.sh) ∧ Aside (Mm w U [(w.heap.size, m)])) → Below U.heap.size U U' → (U'.cell? ⟨w.heap.size, 0, none⟩ = some (.bool m.f0) ∧ U'.cell? ⟨w.heap.size, 1, none⟩ = some (.bool m.f1) ∧ U'.cell? ⟨w.heap.size, 2, none⟩ = some (.bool m.f2) ∧ U'.cell? ⟨w.heap.size, 3, none⟩ = some (.bool m.f3) ∧ U'.cell? ⟨w.heap.size, 4, none⟩ = some (.bool m.f4) ∧ U'.cell? ⟨w.heap.size, 5, none⟩ = some (.bool m.f5) ∧ U'.cell? ⟨w.heap.size, 6, none⟩ = some (.bool m.f6) ∧ U'.cell? ⟨w.heap.size, 7, none⟩ = some (.bool m.f7) ∧ U'.cell? ⟨w.heap.size, 8, none⟩ = some (.int .u8 m.s0) ∧ U'.cell? ⟨w.heap.size, 9, none⟩ = some (.int .u8 m.s1) ∧ U'.cell? ⟨w.heap.size, 10, none⟩ = some (.int .i64 m.sh) ∧ Aside (Mm w U' [(w.heap.size, m)]))) := Lib.hid (fun U U' hs hu => key0 U' (hs.2.2.2.2.2.2.2.2.2.2.2.out.below hu))
    have hS := key0 y0.drew (K0.out.below (Below.refl _ _).drew)
    clear key0
    clear K0
    refine wp_region_held_drew (S := fun U => U.cell? ⟨w.heap.size, 0, none⟩ = some (.bool m.f0) ∧ U.cell? ⟨w.heap.size, 1, none⟩ = some (.bool m.f1) ∧ U.cell? ⟨w.heap.size, 2, none⟩ = some (.bool m.f2) ∧ U.cell? ⟨w.heap.size, 3, none⟩ = some (.bool m.f3) ∧ U.cell? ⟨w.heap.size, 4, none⟩ = some (.bool m.f4) ∧ U.cell? ⟨w.heap.size, 5, none⟩ = some (.bool m.f5) ∧ U.cell? ⟨w.heap.size, 6, none⟩ = some (.bool m.f6) ∧ U.cell? ⟨w.heap.size, 7, none⟩ = some (.bool m.f7) ∧ U.cell? ⟨w.heap.size, 8, none⟩ = some (.int .u8 m.s0) ∧ U.cell? ⟨w.heap.size, 9, none⟩ = some (.int .u8 m.s1) ∧ U.cell? ⟨w.heap.size, 10, none⟩ = some (.int .i64 m.sh) ∧ Aside (Mm w U [(w.heap.size, m)])) (by kernel_rfl) hS (fun hHeld => ?_)
    clear hS
    refine wpAnyH_ready (rs := [0]) (by kernel_rfl) (by simp) ?_
    refine AllReadyH.cons rfl (fun K hK => ?_) AllReadyH.nil
    go_simp
    have hU := hHeld.2.2.2.2.2.2.2.2.2.2.2.out.1; (with_reducible refine (G1.out _ hU).mono ?_); clear hU; rintro e w' ⟨rfl, hb'⟩; have hs' := HKEEP.out _ _ hHeld hb'; clear hHeld hb'
    refine hK.out _ _ hs' (fun hHeld => ?_)
    clear hK K hs'
    refine wpAnyH_ready (rs := [1]) (by kernel_rfl) (by simp) ?_
    refine AllReadyH.cons rfl (fun K hK => ?_) AllReadyH.nil
    go_simp
    have hU := hHeld.2.2.2.2.2.2.2.2.2.2.2.out.1; (with_reducible refine (G2.out _ hU).mono ?_); clear hU; rintro e w' ⟨rfl, hb'⟩; have hs' := HKEEP.out _ _ hHeld hb'; clear hHeld hb'
    refine hK.out _ _ hs' (fun hHeld => ?_)
    clear hK K hs'
    refine wpAnyH_take (i := 2) (v := ?_) rfl (by kernel_rfl) (by kernel_rfl) (by kernel_rfl) (fun _ _ _ h => h) (Or.inl ⟨by rfl, ?_⟩) (by assumption) ?_
    rotate_left
    · (intro W hSw; (try dsimp only at hSw); go_simp; try with_reducible rfl)
    simp only [Act.put, List.getElem_toArray, List.getElem_cons_succ, List.getElem_cons_zero, List.setIfInBounds_toArray, List.set_cons_zero, List.set_cons_succ]
    refine wpAnyH_take (i := 3) (v := ?_) rfl (by kernel_rfl) (by kernel_rfl) (by kernel_rfl) (fun _ _ _ h => h) (Or.inl ⟨by rfl, ?_⟩) (by assumption) ?_
    rotate_left
    · (intro W hSw; (try dsimp only at hSw); go_simp; try with_reducible rfl)
    simp only [Act.put, List.getElem_toArray, List.getElem_cons_succ, List.getElem_cons_zero, List.setIfInBounds_toArray, List.set_cons_zero, List.set_cons_succ]
    refine wpAnyH_take (i := 4) (v := ?_) rfl (by kernel_rfl) (by kernel_rfl) (by kernel_rfl) (fun _ _ _ h => h) (Or.inl ⟨by rfl, ?_⟩) (by assumption) ?_
    rotate_left
    · (intro W hSw; (try dsimp only at hSw); go_simp; try with_reducible rfl)
    simp only [Act.put, List.getElem_toArray, List.getElem_cons_succ, List.getElem_cons_zero, List.setIfInBounds_toArray, List.set_cons_zero, List.set_cons_succ]
    refine wpAnyH_take (i := 5) (v := ?_) rfl (by kernel_rfl) (by kernel_rfl) (by kernel_rfl) (fun _ _ _ h => h) (Or.inl ⟨by rfl, ?_⟩) (by assumption) ?_
    rotate_left
    · (intro W hSw; (try dsimp only at hSw); go_simp; try with_reducible rfl)
    simp only [Act.put, List.getElem_toArray, List.getElem_cons_succ, List.getElem_cons_zero, List.setIfInBounds_toArray, List.set_cons_zero, List.set_cons_succ]
    refine wpAnyH_take (i := 6) (v := ?_) rfl (by kernel_rfl) (by kernel_rfl) (by kernel_rfl) (fun _ _ _ h => h) (Or.inl ⟨by rfl, ?_⟩) (by assumption) ?_
    rotate_left
    · (intro W hSw; (try dsimp only at hSw); go_simp; try with_reducible rfl)
    simp only [Act.put, List.getElem_toArray, List.getElem_cons_succ, List.getElem_cons_zero, List.setIfInBounds_toArray, List.set_cons_zero, List.set_cons_succ]
    refine wpAnyH_take (i := 7) (v := ?_) rfl (by kernel_rfl) (by kernel_rfl) (by kernel_rfl) (fun _ _ _ h => h) (Or.inl ⟨by rfl, ?_⟩) (by assumption) ?_
    rotate_left
    · (intro W hSw; (try dsimp only at hSw); go_simp; try with_reducible rfl)
    simp only [Act.put, List.getElem_toArray, List.getElem_cons_succ, List.getElem_cons_zero, List.setIfInBounds_toArray, List.set_cons_zero, List.set_cons_succ]
    refine wpAnyH_take (i := 9) (v := ?_) rfl (by kernel_rfl) (by kernel_rfl) (by kernel_rfl) (fun _ _ _ h => h) (Or.inl ⟨by rfl, ?_⟩) (by assumption) ?_
    rotate_left
    · (intro W hSw; (try dsimp only at hSw); go_simp; try with_reducible rfl)
    simp only [Act.put, List.getElem_toArray, List.getElem_cons_succ, List.getElem_cons_zero, List.setIfInBounds_toArray, List.set_cons_zero, List.set_cons_succ]
    refine wpAnyH_take (i := 10) (v := ?_) rfl (by kernel_rfl) (by kernel_rfl) (by kernel_rfl) (fun _ _ _ h => h) (Or.inl ⟨by rfl, ?_⟩) (by assumption) ?_
    rotate_left
    · (intro W hSw; (try dsimp only at hSw); go_simp; try with_reducible rfl)
    simp only [Act.put, List.getElem_toArray, List.getElem_cons_succ, List.getElem_cons_zero, List.setIfInBounds_toArray, List.set_cons_zero, List.set_cons_succ]
    refine wpAnyH_take (i := 11) (v := ?_) rfl (by kernel_rfl) (by kernel_rfl) (by kernel_rfl) (fun _ _ _ h => h) (Or.inl ⟨by rfl, ?_⟩) (by assumption) ?_
    rotate_left
    · (intro W hSw; (try dsimp only at hSw); go_simp; try with_reducible rfl)
    simp only [Act.put, List.getElem_toArray, List.getElem_cons_succ, List.getElem_cons_zero, List.setIfInBounds_toArray, List.set_cons_zero, List.set_cons_succ]
    refine wpAnyH_take (i := 12) (v := ?_) rfl (by kernel_rfl) (by kernel_rfl) (by kernel_rfl) (fun _ _ _ h => h) (Or.inl ⟨by rfl, ?_⟩) (by assumption) ?_
    rotate_left
    · (intro W hSw; (try dsimp only at hSw); go_simp; try with_reducible rfl)
    simp only [Act.put, List.getElem_toArray, List.getElem_cons_succ, List.getElem_cons_zero, List.setIfInBounds_toArray, List.set_cons_zero, List.set_cons_succ]
    refine wpAnyH_ready (rs := [8]) (by kernel_rfl) (by simp) ?_
    refine AllReadyH.cons rfl (fun K hK => ?_) AllReadyH.nil
    go_simp
    have hU := hHeld.2.2.2.2.2.2.2.2.2.2.2.out.1; (with_reducible refine (G3.out _ hU).mono ?_); clear hU; rintro e w' ⟨rfl, hb'⟩; have hs' := HKEEP.out _ _ hHeld hb'; clear hHeld hb'
    refine hK.out _ _ hs' (fun hHeld => ?_)
    clear hK K hs'
    refine wpAnyH_ready (rs := [13]) (by kernel_rfl) (by simp) ?_
    refine AllReadyH.cons rfl (fun K hK => ?_) AllReadyH.nil
    go_simp
    have hU := hHeld.2.2.2.2.2.2.2.2.2.2.2.out.1; (with_reducible refine (G4.out _ hU).mono ?_); clear hU; rintro e w' ⟨rfl, hb'⟩; have hs' := HKEEP.out _ _ hHeld hb'; clear hHeld hb'
    refine hK.out _ _ hs' (fun hHeld => ?_)
    clear hK K hs'
    refine wpAnyH_take (i := 14) (v := ?_) rfl (by kernel_rfl) (by kernel_rfl) (by kernel_rfl) (fun _ _ _ h => h) (Or.inl ⟨by rfl, ?_⟩) (by assumption) ?_
    rotate_left
    · (intro W hSw; (try dsimp only at hSw); go_simp; try with_reducible rfl)
    simp only [Act.put, List.getElem_toArray, List.getElem_cons_succ, List.getElem_cons_zero, List.setIfInBounds_toArray, List.set_cons_zero, List.set_cons_succ]
    refine wpAnyH_take (i := 15) (v := ?_) rfl (by kernel_rfl) (by kernel_rfl) (by kernel_rfl) (fun _ _ _ h => h) (Or.inl ⟨by rfl, ?_⟩) (by assumption) ?_
    rotate_left
    · (intro W hSw; (try dsimp only at hSw); go_simp; try with_reducible rfl)
    simp only [Act.put, List.getElem_toArray, List.getElem_cons_succ, List.getElem_cons_zero, List.setIfInBounds_toArray, List.set_cons_zero, List.set_cons_succ]
    refine wpAnyH_take (i := 16) (v := ?_) rfl (by kernel_rfl) (by kernel_rfl) (by kernel_rfl) (fun _ _ _ h => h) (Or.inl ⟨by rfl, ?_⟩) (by assumption) ?_
    rotate_left
    · (intro W hSw; (try dsimp only at hSw); go_simp; try with_reducible rfl)
    simp only [Act.put, List.getElem_toArray, List.getElem_cons_succ, List.getElem_cons_zero, List.setIfInBounds_toArray, List.set_cons_zero, List.set_cons_succ]
    refine wpAnyH_ready (rs := [17]) (by kernel_rfl) (by simp) ?_
    refine AllReadyH.cons rfl (fun K hK => ?_) AllReadyH.nil
    go_simp
    have hU := hHeld.2.2.2.2.2.2.2.2.2.2.2.out.1; (with_reducible refine (G5.out _ hU).mono ?_); clear hU; rintro e w' ⟨rfl, hb'⟩; have hs' := HKEEP.out _ _ hHeld hb'; clear hHeld hb'
    refine hK.out _ _ hs' (fun hHeld => ?_)
    clear hK K hs'
    refine wpAnyH_take (i := 18) (v := ?_) rfl (by kernel_rfl) (by kernel_rfl) (by kernel_rfl) (fun _ _ _ h => h) (Or.inl ⟨by rfl, ?_⟩) (by assumption) ?_
    rotate_left
    · (intro W hSw; (try dsimp only at hSw); go_simp; try with_reducible rfl)
    simp only [Act.put, List.getElem_toArray, List.getElem_cons_succ, List.getElem_cons_zero, List.setIfInBounds_toArray, List.set_cons_zero, List.set_cons_succ]
    refine wpAnyH_take (i := 19) (v := ?_) rfl (by kernel_rfl) (by kernel_rfl) (by kernel_rfl) (fun _ _ _ h => h) (Or.inl ⟨by rfl, ?_⟩) (by assumption) ?_
    rotate_left
    · (intro W hSw; (try dsimp only at hSw); go_simp; try with_reducible rfl)
    simp only [Act.put, List.getElem_toArray, List.getElem_cons_succ, List.getElem_cons_zero, List.setIfInBounds_toArray, List.set_cons_zero, List.set_cons_succ]
    refine wpAnyH_done (by kernel_rfl) ?_ _
    have hB := hHeld.2.2.2.2.2.2.2.2.2.2.2.out.1
    clear hHeld
    go_wp2
    go_ret
    exact ⟨rfl, hB⟩

end Go.Proofs.YtgnkbcflkalhjaaDoor
