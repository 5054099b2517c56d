/-
  The statement of layer 11 on two lists one after the other: the walk.
-/
import Derived.Test.YtgnkbcflkalhjaaDoorMoMem
import Derived.Deep.RegionHeld3
namespace Go.Proofs.YtgnkbcflkalhjaaDoor
open Go.RowKit Mo


set_option maxHeartbeats 4000000 in
set_option maxRecDepth 100000 in
theorem concat_walk (m : M) (p : Int) (A : Option Addr) (n c : Nat) (l : List Int) (A2 : Option Addr) (n2 c2 : Nat) (l2 : List Int) (on : Bool) (w : World) (hN : Nums w w.heap.size A n l) (hA : A = none → n = 0 ∧ c = 0) (hN2 : Nums w w.heap.size A2 n2 l2) (hA2 : A2 = none → n2 = 0 ∧ c2 = 0) (hT : Tb w) :
    Calls Tryd.prog 5 #[.agg #[.bool m.f0, .bool m.f1, .bool m.f2, .bool m.f3, .bool m.f4, .bool m.f5, .bool m.f6, .bool m.f7, .int .u8 m.s0, .int .u8 m.s1, .int .i64 m.sh], .int .u8 p, .slice A n c, .slice A2 n2 c2, .bool on] w fun e w' => e = .returned (.bool true) ∧ Below w.heap.size w w' := by
  have K0 := Lib.hid (Mm.start w m)
  by_cases hlt : 40 < (n : Int) ∨ 40 < (n2 : Int)
  · have G5 := Lib.hid (awake_at hT)
    have key : 40 < (n : Int) ∨ (¬ 40 < (n : Int) ∧ 40 < (n2 : Int)) := by omega
    clear hN hT hN2 hA hA2 hlt
    rcases key with h1 | ⟨h1, h2⟩
    all_goals
      go_enter Tryd.func5, Tryd.ntmps5
      go_wp2_with fail
      refine (G5.out _ K0.out.1).mono ?_
      rintro e w1 ⟨rfl, b1⟩
      have B1 := Lib.hid (below_step K0.out.1 b1)
      clear b1
      go_wp2
      go_ret
      exact ⟨rfl, B1.out⟩
  · have h1 : ¬ 40 < (n : Int) := by omega
    have h2 : ¬ 40 < (n2 : Int) := by omega
    have HN := Lib.hid hN
    have HN2 := Lib.hid hN2
    have HA := Lib.hid hA
    have HA2 := Lib.hid hA2
    have HT := Lib.hid hT
    have H1 := Lib.hid h1
    have H2 := Lib.hid h2
    have N0 := Lib.hid ((hN.below K0.out.1 (Nat.le_refl _)).more K0.out.1.size)
    have N2 := Lib.hid ((hN2.below K0.out.1 (Nat.le_refl _)).more K0.out.1.size)
    clear hN hN2 hA hA2 hT hlt
    have L0 := Lib.hid (show (w.alloc (.cells #[.bool m.f0, .bool m.f1, .bool m.f2, .bool m.f3, .bool m.f4, .bool m.f5, .bool m.f6, .bool m.f7, .int .u8 m.s0, .int .u8 m.s1, .int .i64 m.sh] 24)).heap.size = w.heap.size + 1 by simp)
    go_enter Tryd.func5, Tryd.ntmps5
    go_upto_if 19 with fail
    generalize w.alloc (.cells #[.bool m.f0, .bool m.f1, .bool m.f2, .bool m.f3, .bool m.f4, .bool m.f5, .bool m.f6, .bool m.f7, .int .u8 m.s0, .int .u8 m.s1, .int .i64 m.sh] 24) = y0 at K0 N0 N2 L0 ⊢
    go_wp2_with (first
      | (at_builtin; refine wpList_join rfl (.tmp 21) (.tmp 22) rfl y0 _ _ [] l A n c y0.heap.size rfl rfl (Out.laid y0) (N0.out.alloc (Nat.le_refl _) _) HA.out (by have := HN.out.1; have := H1.out; simp; omega) ?_; intro v7 w7 hout7; rw [List.nil_append] at hout7)
      | (at_builtin; refine wpList_join rfl (.tmp 23) (.tmp 24) rfl y0 _ _ l l2 A2 n2 c2 y0.heap.size rfl rfl hout7 (N2.out.below hout7.2 (Nat.le_refl _)) HA2.out (by have := HN.out.1; have := HN2.out.1; have := H1.out; have := H2.out; omega) ?_; intro v8 w8 hout8; obtain ⟨A8, n8, c8, hv8, N8⟩ := hout8.reads; subst hv8; clear hout7))
    have K8 := Lib.hid (show Mm w8 w8 [(w.heap.size, m)] from ⟨Below.refl _ _, (K0.out.below hout8.2).2⟩)
    have B8 := Lib.hid (below_step K0.out.1 hout8.2)
    have G5 := Lib.hid (awake_at (HT.out.below B8.out))
    have M0 : Nums w8 w8.heap.size A n l := (HN.out.below B8.out (Nat.le_refl _)).more B8.out.size
    have M2 : Nums w8 w8.heap.size A2 n2 l2 := (HN2.out.below B8.out (Nat.le_refl _)).more B8.out.size
    have n8s := N8.1
    rw [List.length_append] at n8s
    obtain ⟨x, hx⟩ : ∃ x, set m p l on = x := ⟨_, rfl⟩
    obtain ⟨z, hz⟩ : ∃ z, set m p (l ++ l2) on = z := ⟨_, rfl⟩
    have h3 : set x p l2 on = z := by rw [← hx, ← hz]; exact set_app _ _ _ _ _
    have ln := HN.out.1
    have ln2 := HN2.out.1
    have G1 := Lib.hid (set_at (c := c) m x p on (by omega) M0 hx)
    have G2 := Lib.hid (set_at (c := c2) x z p on (by omega) M2 h3)
    have G3 := Lib.hid (set_at (c := c8) m z p on (by omega) N8 hz)
    have eqS := equalIn_same
    have eq2 := Tryd.eqGuardType24
    clear hx hz h3 M0 M2 N8 n8s hout8 h1 h2 HN HN2 HA HA2 HT H1 H2 N0 N2 L0 K0 ln ln2
    have key0 : ∀ U, Mm w8 U [(w.heap.size, m)] → (U.cell? ⟨w.heap.size, 0, none⟩ = some (.bool m.f0) ∧ U.cell? ⟨w.heap.size, 1, none⟩ = some (.bool m.f1) ∧ U.cell? ⟨w.heap.size, 2, none⟩ = some (.bool m.f2) ∧ U.cell? ⟨w.heap.size, 3, none⟩ = some (.bool m.f3) ∧ U.cell? ⟨w.heap.size, 4, none⟩ = some (.bool m.f4) ∧ U.cell? ⟨w.heap.size, 5, none⟩ = some (.bool m.f5) ∧ U.cell? ⟨w.heap.size, 6, none⟩ = some (.bool m.f6) ∧ U.cell? ⟨w.heap.size, 7, none⟩ = some (.bool m.f7) ∧ U.cell? ⟨w.heap.size, 8, none⟩ = some (.int .u8 m.s0) ∧ U.cell? ⟨w.heap.size, 9, none⟩ = some (.int .u8 m.s1) ∧ U.cell? ⟨w.heap.size, 10, none⟩ = some (.int .i64 m.sh) ∧ Aside (Mm w8 U [(w.heap.size, m)])) := fun U k => by
      obtain ⟨a0_0, a0_1, a0_2, a0_3, a0_4, a0_5, a0_6, a0_7, a0_8, a0_9, a0_10⟩ := (k.at 0 rfl).all
      exact ⟨a0_0, a0_1, a0_2, a0_3, a0_4, a0_5, a0_6, a0_7, a0_8, a0_9, a0_10, k⟩
    have HKEEP : Hid (∀ (U U' : World), (U.cell? ⟨w.heap.size, 0, none⟩ = some (.bool m.f0) ∧ U.cell? ⟨w.heap.size, 1, none⟩ = some (.bool m.f1) ∧ U.cell? ⟨w.heap.size, 2, none⟩ = some (.bool m.f2) ∧ U.cell? ⟨w.heap.size, 3, none⟩ = some (.bool m.f3) ∧ U.cell? ⟨w.heap.size, 4, none⟩ = some (.bool m.f4) ∧ U.cell? ⟨w.heap.size, 5, none⟩ = some (.bool m.f5) ∧ U.cell? ⟨w.heap.size, 6, none⟩ = some (.bool m.f6) ∧ U.cell? ⟨w.heap.size, 7, none⟩ = some (.bool m.f7) ∧ U.cell? ⟨w.heap.size, 8, none⟩ = some (.int .u8 m.s0) ∧ U.cell? ⟨w.heap.size, 9, none⟩ = some (.int .u8 m.s1) ∧ U.cell? ⟨w.heap.size, 10, none⟩ = some (.int .i64 m.sh) ∧ Aside (Mm w8 U [(w.heap.size, m)])) → Below U.heap.size U U' → (U'.cell? ⟨w.heap.size, 0, none⟩ = some (.bool m.f0) ∧ U'.cell? ⟨w.heap.size, 1, none⟩ = some (.bool m.f1) ∧ U'.cell? ⟨w.heap.size, 2, none⟩ = some (.bool m.f2) ∧ U'.cell? ⟨w.heap.size, 3, none⟩ = some (.bool m.f3) ∧ U'.cell? ⟨w.heap.size, 4, none⟩ = some (.bool m.f4) ∧ U'.cell? ⟨w.heap.size, 5, none⟩ = some (.bool m.f5) ∧ U'.cell? ⟨w.heap.size, 6, none⟩ = some (.bool m.f6) ∧ U'.cell? ⟨w.heap.size, 7, none⟩ = some (.bool m.f7) ∧ U'.cell? ⟨w.heap.size, 8, none⟩ = some (.int .u8 m.s0) ∧ U'.cell? ⟨w.heap.size, 9, none⟩ = some (.int .u8 m.s1) ∧ U'.cell? ⟨w.heap.size, 10, none⟩ = some (.int .i64 m.sh) ∧ Aside (Mm w8 U' [(w.heap.size, m)]))) := Lib.hid (fun U U' hs hu => key0 U' (hs.2.2.2.2.2.2.2.2.2.2.2.out.below hu))
    have hS := key0 w8.drew (K8.out.below (Below.refl _ _).drew)
    clear key0
    clear K8
    refine wp_region_held_drew (S := fun U => U.cell? ⟨w.heap.size, 0, none⟩ = some (.bool m.f0) ∧ U.cell? ⟨w.heap.size, 1, none⟩ = some (.bool m.f1) ∧ U.cell? ⟨w.heap.size, 2, none⟩ = some (.bool m.f2) ∧ U.cell? ⟨w.heap.size, 3, none⟩ = some (.bool m.f3) ∧ U.cell? ⟨w.heap.size, 4, none⟩ = some (.bool m.f4) ∧ U.cell? ⟨w.heap.size, 5, none⟩ = some (.bool m.f5) ∧ U.cell? ⟨w.heap.size, 6, none⟩ = some (.bool m.f6) ∧ U.cell? ⟨w.heap.size, 7, none⟩ = some (.bool m.f7) ∧ U.cell? ⟨w.heap.size, 8, none⟩ = some (.int .u8 m.s0) ∧ U.cell? ⟨w.heap.size, 9, none⟩ = some (.int .u8 m.s1) ∧ U.cell? ⟨w.heap.size, 10, none⟩ = some (.int .i64 m.sh) ∧ Aside (Mm w8 U [(w.heap.size, m)])) (by kernel_rfl) hS (fun hHeld => ?_)
    clear hS
    refine wpAnyH_take (i := 0) (v := ?_) rfl (by kernel_rfl) (by kernel_rfl) (by kernel_rfl) (fun _ _ _ h => h) (Or.inl ⟨by rfl, ?_⟩) (by assumption) ?_
    rotate_left
    · (intro W hSw; (try dsimp only at hSw); go_simp; try with_reducible rfl)
    simp only [Act.put, List.getElem_toArray, List.getElem_cons_zero, List.setIfInBounds_toArray, List.set_cons_zero, List.set_cons_succ]
    refine wpAnyH_take (i := 1) (v := ?_) rfl (by kernel_rfl) (by kernel_rfl) (by kernel_rfl) (fun _ _ _ h => h) (Or.inl ⟨by rfl, ?_⟩) (by assumption) ?_
    rotate_left
    · (intro W hSw; (try dsimp only at hSw); go_simp; try with_reducible rfl)
    simp only [Act.put, List.getElem_toArray, List.getElem_cons_succ, List.getElem_cons_zero, List.setIfInBounds_toArray, List.set_cons_zero, List.set_cons_succ]
    refine wpAnyH_take (i := 2) (v := ?_) rfl (by kernel_rfl) (by kernel_rfl) (by kernel_rfl) (fun _ _ _ h => h) (Or.inl ⟨by rfl, ?_⟩) (by assumption) ?_
    rotate_left
    · (intro W hSw; (try dsimp only at hSw); go_simp; try with_reducible rfl)
    simp only [Act.put, List.getElem_toArray, List.getElem_cons_succ, List.getElem_cons_zero, List.setIfInBounds_toArray, List.set_cons_zero, List.set_cons_succ]
    refine wpAnyH_take (i := 3) (v := ?_) rfl (by kernel_rfl) (by kernel_rfl) (by kernel_rfl) (fun _ _ _ h => h) (Or.inl ⟨by rfl, ?_⟩) (by assumption) ?_
    rotate_left
    · (intro W hSw; (try dsimp only at hSw); go_simp; try with_reducible rfl)
    simp only [Act.put, List.getElem_toArray, List.getElem_cons_succ, List.getElem_cons_zero, List.setIfInBounds_toArray, List.set_cons_zero, List.set_cons_succ]
    refine wpAnyH_take (i := 5) (v := ?_) rfl (by kernel_rfl) (by kernel_rfl) (by kernel_rfl) (fun _ _ _ h => h) (Or.inl ⟨by rfl, ?_⟩) (by assumption) ?_
    rotate_left
    · (intro W hSw; (try dsimp only at hSw); go_simp; try with_reducible rfl)
    simp only [Act.put, List.getElem_toArray, List.getElem_cons_succ, List.getElem_cons_zero, List.setIfInBounds_toArray, List.set_cons_zero, List.set_cons_succ]
    refine wpAnyH_take (i := 6) (v := ?_) rfl (by kernel_rfl) (by kernel_rfl) (by kernel_rfl) (fun _ _ _ h => h) (Or.inl ⟨by rfl, ?_⟩) (by assumption) ?_
    rotate_left
    · (intro W hSw; (try dsimp only at hSw); go_simp; try with_reducible rfl)
    simp only [Act.put, List.getElem_toArray, List.getElem_cons_succ, List.getElem_cons_zero, List.setIfInBounds_toArray, List.set_cons_zero, List.set_cons_succ]
    refine wpAnyH_take (i := 7) (v := ?_) rfl (by kernel_rfl) (by kernel_rfl) (by kernel_rfl) (fun _ _ _ h => h) (Or.inl ⟨by rfl, ?_⟩) (by assumption) ?_
    rotate_left
    · (intro W hSw; (try dsimp only at hSw); go_simp; try with_reducible rfl)
    simp only [Act.put, List.getElem_toArray, List.getElem_cons_succ, List.getElem_cons_zero, List.setIfInBounds_toArray, List.set_cons_zero, List.set_cons_succ]
    refine wpAnyH_take (i := 9) (v := ?_) rfl (by kernel_rfl) (by kernel_rfl) (by kernel_rfl) (fun _ _ _ h => h) (Or.inl ⟨by rfl, ?_⟩) (by assumption) ?_
    rotate_left
    · (intro W hSw; (try dsimp only at hSw); go_simp; try with_reducible rfl)
    simp only [Act.put, List.getElem_toArray, List.getElem_cons_succ, List.getElem_cons_zero, List.setIfInBounds_toArray, List.set_cons_zero, List.set_cons_succ]
    refine wpAnyH_take (i := 10) (v := ?_) rfl (by kernel_rfl) (by kernel_rfl) (by kernel_rfl) (fun _ _ _ h => h) (Or.inl ⟨by rfl, ?_⟩) (by assumption) ?_
    rotate_left
    · (intro W hSw; (try dsimp only at hSw); go_simp; try with_reducible rfl)
    simp only [Act.put, List.getElem_toArray, List.getElem_cons_succ, List.getElem_cons_zero, List.setIfInBounds_toArray, List.set_cons_zero, List.set_cons_succ]
    refine wpAnyH_take (i := 11) (v := ?_) rfl (by kernel_rfl) (by kernel_rfl) (by kernel_rfl) (fun _ _ _ h => h) (Or.inl ⟨by rfl, ?_⟩) (by assumption) ?_
    rotate_left
    · (intro W hSw; (try dsimp only at hSw); go_simp; try with_reducible rfl)
    simp only [Act.put, List.getElem_toArray, List.getElem_cons_succ, List.getElem_cons_zero, List.setIfInBounds_toArray, List.set_cons_zero, List.set_cons_succ]
    refine wpAnyH_take (i := 12) (v := ?_) rfl (by kernel_rfl) (by kernel_rfl) (by kernel_rfl) (fun _ _ _ h => h) (Or.inl ⟨by rfl, ?_⟩) (by assumption) ?_
    rotate_left
    · (intro W hSw; (try dsimp only at hSw); go_simp; try with_reducible rfl)
    simp only [Act.put, List.getElem_toArray, List.getElem_cons_succ, List.getElem_cons_zero, List.setIfInBounds_toArray, List.set_cons_zero, List.set_cons_succ]
    refine wpAnyH_ready (rs := [4]) (by kernel_rfl) (by simp) ?_
    refine AllReadyH.cons rfl (fun K hK => ?_) AllReadyH.nil
    go_simp
    have hU := hHeld.2.2.2.2.2.2.2.2.2.2.2.out.1; (with_reducible refine (G1.out _ hU).mono ?_); clear hU; rintro e w' ⟨rfl, hb'⟩; have hs' := HKEEP.out _ _ hHeld hb'; clear hHeld hb'
    refine hK.out _ _ hs' (fun hHeld => ?_)
    clear hK K hs'
    refine wpAnyH_ready (rs := [8]) (by kernel_rfl) (by simp) ?_
    refine AllReadyH.cons rfl (fun K hK => ?_) AllReadyH.nil
    go_simp
    have hU := hHeld.2.2.2.2.2.2.2.2.2.2.2.out.1; (with_reducible refine (G2.out _ hU).mono ?_); clear hU; rintro e w' ⟨rfl, hb'⟩; have hs' := HKEEP.out _ _ hHeld hb'; clear hHeld hb'
    refine hK.out _ _ hs' (fun hHeld => ?_)
    clear hK K hs'
    refine wpAnyH_ready (rs := [13]) (by kernel_rfl) (by simp) ?_
    refine AllReadyH.cons rfl (fun K hK => ?_) AllReadyH.nil
    go_simp
    have hU := hHeld.2.2.2.2.2.2.2.2.2.2.2.out.1; (with_reducible refine (G3.out _ hU).mono ?_); clear hU; rintro e w' ⟨rfl, hb'⟩; have hs' := HKEEP.out _ _ hHeld hb'; clear hHeld hb'
    refine hK.out _ _ hs' (fun hHeld => ?_)
    clear hK K hs'
    refine wpAnyH_take (i := 14) (v := ?_) rfl (by kernel_rfl) (by kernel_rfl) (by kernel_rfl) (fun _ _ _ h => h) (Or.inl ⟨by rfl, ?_⟩) (by assumption) ?_
    rotate_left
    · (intro W hSw; (try dsimp only at hSw); go_simp; try with_reducible rfl)
    simp only [Act.put, List.getElem_toArray, List.getElem_cons_succ, List.getElem_cons_zero, List.setIfInBounds_toArray, List.set_cons_zero, List.set_cons_succ]
    refine wpAnyH_take (i := 15) (v := ?_) rfl (by kernel_rfl) (by kernel_rfl) (by kernel_rfl) (fun _ _ _ h => h) (Or.inl ⟨by rfl, ?_⟩) (by assumption) ?_
    rotate_left
    · (intro W hSw; (try dsimp only at hSw); go_simp; try with_reducible rfl)
    simp only [Act.put, List.getElem_toArray, List.getElem_cons_succ, List.getElem_cons_zero, List.setIfInBounds_toArray, List.set_cons_zero, List.set_cons_succ]
    refine wpAnyH_ready (rs := [16]) (by kernel_rfl) (by simp) ?_
    refine AllReadyH.cons rfl (fun K hK => ?_) AllReadyH.nil
    go_simp
    have hU := hHeld.2.2.2.2.2.2.2.2.2.2.2.out.1; (with_reducible refine (G5.out _ hU).mono ?_); clear hU; rintro e w' ⟨rfl, hb'⟩; have hs' := HKEEP.out _ _ hHeld hb'; clear hHeld hb'
    refine hK.out _ _ hs' (fun hHeld => ?_)
    clear hK K hs'
    refine wpAnyH_take (i := 17) (v := ?_) rfl (by kernel_rfl) (by kernel_rfl) (by kernel_rfl) (fun _ _ _ h => h) (Or.inl ⟨by rfl, ?_⟩) (by assumption) ?_
    rotate_left
    · (intro W hSw; (try dsimp only at hSw); go_simp; try with_reducible rfl)
    simp only [Act.put, List.getElem_toArray, List.getElem_cons_succ, List.getElem_cons_zero, List.setIfInBounds_toArray, List.set_cons_zero, List.set_cons_succ]
    refine wpAnyH_take (i := 18) (v := ?_) rfl (by kernel_rfl) (by kernel_rfl) (by kernel_rfl) (fun _ _ _ h => h) (Or.inl ⟨by rfl, ?_⟩) (by assumption) ?_
    rotate_left
    · (intro W hSw; (try dsimp only at hSw); go_simp; try with_reducible rfl)
    simp only [Act.put, List.getElem_toArray, List.getElem_cons_succ, List.getElem_cons_zero, List.setIfInBounds_toArray, List.set_cons_zero, List.set_cons_succ]
    refine wpAnyH_done (by kernel_rfl) ?_ _
    have hB := below_step B8.out (hHeld.2.2.2.2.2.2.2.2.2.2.2.out.1)
    clear hHeld
    go_wp2
    go_ret
    exact ⟨rfl, hB⟩

end Go.Proofs.YtgnkbcflkalhjaaDoor
