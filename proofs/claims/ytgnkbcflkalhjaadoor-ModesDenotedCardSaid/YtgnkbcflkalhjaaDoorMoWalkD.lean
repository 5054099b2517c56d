/-
  The statement of layer 11 on what a number denotes: the walk.
-/
import Derived.Test.YtgnkbcflkalhjaaDoorMoMem
import Derived.Test.YtgnkbcflkalhjaaDoorMoRefSet
import Derived.Deep.RegionHeld3
import Derived.Deep.DeepCutAuto
namespace Go.Proofs.YtgnkbcflkalhjaaDoor
open Go.RowKit Mo


theorem wpAnyH_cut {P : Program} {md : Region.Mode} {ops : Array Oper} {Q : Exit → Act → World → Prop} {S : World → Prop} {fuel : Nat} {listed : Array Bool} {a : Act} {w : World} (C : Array Oper → (Exit → Act → World → Prop) → (World → Prop) → Prop)
    (h1 : C ops Q S) (h2 : C ops Q S → wpAnyH P md ops Q S fuel listed a w) : wpAnyH P md ops Q S fuel listed a w := h2 h1
theorem set_pair (m x : M) (p n : Int) (on : Bool) (hx : set m p [n] on = x) (k : Nat) (U : World) (h : Nums U U.heap.size (some ⟨k, 0, none⟩) 1 [n]) :
    Calls Tryd.prog 14 #[.agg #[.bool m.f0, .bool m.f1, .bool m.f2, .bool m.f3, .bool m.f4, .bool m.f5, .bool m.f6, .bool m.f7, .int .u8 m.s0, .int .u8 m.s1, .int .i64 m.sh], .int .u8 p, .slice (some ⟨k, 0, none⟩) 1 1, .bool on] U fun e w' => e = .returned (.agg #[.bool x.f0, .bool x.f1, .bool x.f2, .bool x.f3, .bool x.f4, .bool x.f5, .bool x.f6, .bool x.f7, .int .u8 x.s0, .int .u8 x.s1, .int .i64 x.sh]) ∧ Below U.heap.size U w' :=
  set_any m x p on (some ⟨k, 0, none⟩) 1 1 U.heap.size [n] (by omega) U h (Nat.le_refl _) hx

set_option maxHeartbeats 16000000 in
set_option maxRecDepth 100000 in
theorem denoted_main (m x y : M) (j : Nat) (kn : Bool) (p n : Int) (w : World) (hT : Tb w) (hx : set m p [n] true = x) (hy : set m p [n] false = y) (hd : den p n = j) (hkn : decide (j < 8) = kn)
    (hdiff : ∀ i, i < 8 → (x.get i != y.get i) = decide (i = j)) (b1 b2 : Bool) (he : decide (x = y) = !kn) (hb1 : decide (x = m) = b1) (hb2 : decide (y = m) = b2) (hb : b1 = true ∨ b2 = true) :
    Calls Tryd.prog 8 #[.agg #[.bool m.f0, .bool m.f1, .bool m.f2, .bool m.f3, .bool m.f4, .bool m.f5, .bool m.f6, .bool m.f7, .int .u8 m.s0, .int .u8 m.s1, .int .i64 m.sh], .int .u8 p, .int .i64 n] w fun e w' => e = .returned (.bool true) ∧ Below w.heap.size w w' := by
  have GA := Lib.hid (awake_at hT)
  have G1 := Lib.hid (set_pair m x p n true hx)
  have G2 := Lib.hid (set_pair m y p n false hy)
  have HD := Lib.hid hd
  have HKN := Lib.hid hkn
  have HDIF := Lib.hid hdiff
  have HE := Lib.hid he
  have HB1 := Lib.hid hb1
  have HB2 := Lib.hid hb2
  have HB := Lib.hid hb
  have K0 := Lib.hid (Mm.start w m)
  clear hT hx hy hd hkn hdiff he hb1 hb2 hb
  go_enter Tryd.func8, Tryd.ntmps8
  go_wp2_with fail
  generalize w.alloc (.cells #[.bool m.f0, .bool m.f1, .bool m.f2, .bool m.f3, .bool m.f4, .bool m.f5, .bool m.f6, .bool m.f7, .int .u8 m.s0, .int .u8 m.s1, .int .i64 m.sh] 24) = y0 at K0 ⊢
  have B0 := Lib.hid K0.out.1
  have K2 := Lib.hid (show Mm y0 y0 [(w.heap.size, m)] from ⟨Below.refl _ _, K0.out.2⟩)
  have KL : Hid (∀ z ∈ [(w.heap.size, m)], z.1 < y0.heap.size) := Lib.hid (fun z hz => (K2.out.2 z hz).lt)
  have key0 : ∀ U, Mm y0 U [(w.heap.size, m)] → (U.cell? ⟨w.heap.size, 0, none⟩ = some (.bool m.f0) ∧ U.cell? ⟨w.heap.size, 1, none⟩ = some (.bool m.f1) ∧ U.cell? ⟨w.heap.size, 2, none⟩ = some (.bool m.f2) ∧ U.cell? ⟨w.heap.size, 3, none⟩ = some (.bool m.f3) ∧ U.cell? ⟨w.heap.size, 4, none⟩ = some (.bool m.f4) ∧ U.cell? ⟨w.heap.size, 5, none⟩ = some (.bool m.f5) ∧ U.cell? ⟨w.heap.size, 6, none⟩ = some (.bool m.f6) ∧ U.cell? ⟨w.heap.size, 7, none⟩ = some (.bool m.f7) ∧ U.cell? ⟨w.heap.size, 8, none⟩ = some (.int .u8 m.s0) ∧ U.cell? ⟨w.heap.size, 9, none⟩ = some (.int .u8 m.s1) ∧ U.cell? ⟨w.heap.size, 10, none⟩ = some (.int .i64 m.sh) ∧ Aside (Mm y0 U [(w.heap.size, m)])) := fun U k => by
    obtain ⟨a0_0, a0_1, a0_2, a0_3, a0_4, a0_5, a0_6, a0_7, a0_8, a0_9, a0_10⟩ := (k.at 0 rfl).all
    exact ⟨a0_0, a0_1, a0_2, a0_3, a0_4, a0_5, a0_6, a0_7, a0_8, a0_9, a0_10, k⟩
  have HKEEP : Hid (∀ (U U' : World), (U.cell? ⟨w.heap.size, 0, none⟩ = some (.bool m.f0) ∧ U.cell? ⟨w.heap.size, 1, none⟩ = some (.bool m.f1) ∧ U.cell? ⟨w.heap.size, 2, none⟩ = some (.bool m.f2) ∧ U.cell? ⟨w.heap.size, 3, none⟩ = some (.bool m.f3) ∧ U.cell? ⟨w.heap.size, 4, none⟩ = some (.bool m.f4) ∧ U.cell? ⟨w.heap.size, 5, none⟩ = some (.bool m.f5) ∧ U.cell? ⟨w.heap.size, 6, none⟩ = some (.bool m.f6) ∧ U.cell? ⟨w.heap.size, 7, none⟩ = some (.bool m.f7) ∧ U.cell? ⟨w.heap.size, 8, none⟩ = some (.int .u8 m.s0) ∧ U.cell? ⟨w.heap.size, 9, none⟩ = some (.int .u8 m.s1) ∧ U.cell? ⟨w.heap.size, 10, none⟩ = some (.int .i64 m.sh) ∧ Aside (Mm y0 U [(w.heap.size, m)])) → Below U.heap.size U U' → (U'.cell? ⟨w.heap.size, 0, none⟩ = some (.bool m.f0) ∧ U'.cell? ⟨w.heap.size, 1, none⟩ = some (.bool m.f1) ∧ U'.cell? ⟨w.heap.size, 2, none⟩ = some (.bool m.f2) ∧ U'.cell? ⟨w.heap.size, 3, none⟩ = some (.bool m.f3) ∧ U'.cell? ⟨w.heap.size, 4, none⟩ = some (.bool m.f4) ∧ U'.cell? ⟨w.heap.size, 5, none⟩ = some (.bool m.f5) ∧ U'.cell? ⟨w.heap.size, 6, none⟩ = some (.bool m.f6) ∧ U'.cell? ⟨w.heap.size, 7, none⟩ = some (.bool m.f7) ∧ U'.cell? ⟨w.heap.size, 8, none⟩ = some (.int .u8 m.s0) ∧ U'.cell? ⟨w.heap.size, 9, none⟩ = some (.int .u8 m.s1) ∧ U'.cell? ⟨w.heap.size, 10, none⟩ = some (.int .i64 m.sh) ∧ Aside (Mm y0 U' [(w.heap.size, m)]))) := Lib.hid (fun U U' hs hu => key0 U' (hs.2.2.2.2.2.2.2.2.2.2.2.out.below hu))
  have hS := key0 y0.drew (K2.out.below (Below.refl _ _).drew)
  clear key0
  have HR : Hid (∀ (U : World) (k : Nat) (cs : Array Value), y0.heap.size ≤ k → (U.cell? ⟨w.heap.size, 0, none⟩ = some (.bool m.f0) ∧ U.cell? ⟨w.heap.size, 1, none⟩ = some (.bool m.f1) ∧ U.cell? ⟨w.heap.size, 2, none⟩ = some (.bool m.f2) ∧ U.cell? ⟨w.heap.size, 3, none⟩ = some (.bool m.f3) ∧ U.cell? ⟨w.heap.size, 4, none⟩ = some (.bool m.f4) ∧ U.cell? ⟨w.heap.size, 5, none⟩ = some (.bool m.f5) ∧ U.cell? ⟨w.heap.size, 6, none⟩ = some (.bool m.f6) ∧ U.cell? ⟨w.heap.size, 7, none⟩ = some (.bool m.f7) ∧ U.cell? ⟨w.heap.size, 8, none⟩ = some (.int .u8 m.s0) ∧ U.cell? ⟨w.heap.size, 9, none⟩ = some (.int .u8 m.s1) ∧ U.cell? ⟨w.heap.size, 10, none⟩ = some (.int .i64 m.sh) ∧ Aside (Mm y0 U [(w.heap.size, m)])) → ((U.setRow k cs).cell? ⟨w.heap.size, 0, none⟩ = some (.bool m.f0) ∧ (U.setRow k cs).cell? ⟨w.heap.size, 1, none⟩ = some (.bool m.f1) ∧ (U.setRow k cs).cell? ⟨w.heap.size, 2, none⟩ = some (.bool m.f2) ∧ (U.setRow k cs).cell? ⟨w.heap.size, 3, none⟩ = some (.bool m.f3) ∧ (U.setRow k cs).cell? ⟨w.heap.size, 4, none⟩ = some (.bool m.f4) ∧ (U.setRow k cs).cell? ⟨w.heap.size, 5, none⟩ = some (.bool m.f5) ∧ (U.setRow k cs).cell? ⟨w.heap.size, 6, none⟩ = some (.bool m.f6) ∧ (U.setRow k cs).cell? ⟨w.heap.size, 7, none⟩ = some (.bool m.f7) ∧ (U.setRow k cs).cell? ⟨w.heap.size, 8, none⟩ = some (.int .u8 m.s0) ∧ (U.setRow k cs).cell? ⟨w.heap.size, 9, none⟩ = some (.int .u8 m.s1) ∧ (U.setRow k cs).cell? ⟨w.heap.size, 10, none⟩ = some (.int .i64 m.sh) ∧ Aside (Mm y0 (U.setRow k cs) [(w.heap.size, m)]))) := Lib.hid (fun U k cs hk hs => by
    have h := hs.2.2.2.2.2.2.2.2.2.2.2.out
    have h' : Mm y0 (U.setRow k cs) [(w.heap.size, m)] := ⟨below_setRow h.1 hk _, fun z hz => (h.2 z hz).rowOther (by have := KL.out z hz; omega) _⟩
    obtain ⟨a0, a1, a2, a3, a4, a5, a6, a7, a8, a9, a10⟩ := (h'.at 0 rfl).all
    exact ⟨a0, a1, a2, a3, a4, a5, a6, a7, a8, a9, a10, h'⟩)
  clear K0 K2
  refine wp_region_held_drew (S := fun U => U.cell? ⟨w.heap.size, 0, none⟩ = some (.bool m.f0) ∧ U.cell? ⟨w.heap.size, 1, none⟩ = some (.bool m.f1) ∧ U.cell? ⟨w.heap.size, 2, none⟩ = some (.bool m.f2) ∧ U.cell? ⟨w.heap.size, 3, none⟩ = some (.bool m.f3) ∧ U.cell? ⟨w.heap.size, 4, none⟩ = some (.bool m.f4) ∧ U.cell? ⟨w.heap.size, 5, none⟩ = some (.bool m.f5) ∧ U.cell? ⟨w.heap.size, 6, none⟩ = some (.bool m.f6) ∧ U.cell? ⟨w.heap.size, 7, none⟩ = some (.bool m.f7) ∧ U.cell? ⟨w.heap.size, 8, none⟩ = some (.int .u8 m.s0) ∧ U.cell? ⟨w.heap.size, 9, none⟩ = some (.int .u8 m.s1) ∧ U.cell? ⟨w.heap.size, 10, none⟩ = some (.int .i64 m.sh) ∧ Aside (Mm y0 U [(w.heap.size, m)])) (by kernel_rfl) hS (fun hHeld => ?_)
  clear hS
  refine wpAnyH_take (i := 0) (v := ?_) rfl (by kernel_rfl) (by kernel_rfl) (by kernel_rfl) (fun _ _ _ h => h) (Or.inl ⟨by rfl, ?_⟩) (by assumption) ?_
  rotate_left
  · (intro W hSw; (try dsimp only at hSw); go_simp; try with_reducible rfl)
  simp only [Act.put, List.getElem_toArray, List.getElem_cons_zero, List.setIfInBounds_toArray, List.set_cons_zero, List.set_cons_succ]
  refine wpAnyH_take (i := 1) (v := ?_) rfl (by kernel_rfl) (by kernel_rfl) (by kernel_rfl) (fun _ _ _ h => h) (Or.inl ⟨by rfl, ?_⟩) (by assumption) ?_
  rotate_left
  · (intro W hSw; (try dsimp only at hSw); go_simp; try with_reducible rfl)
  simp only [Act.put, List.getElem_toArray, List.getElem_cons_succ, List.getElem_cons_zero, List.setIfInBounds_toArray, List.set_cons_zero, List.set_cons_succ]
  refine wpAnyH_take (i := 2) (v := ?_) rfl (by kernel_rfl) (by kernel_rfl) (by kernel_rfl) (fun _ _ _ h => h) (Or.inl ⟨by rfl, ?_⟩) (by assumption) ?_
  rotate_left
  · (intro W hSw; (try dsimp only at hSw); go_simp; try with_reducible rfl)
  simp only [Act.put, List.getElem_toArray, List.getElem_cons_succ, List.getElem_cons_zero, List.setIfInBounds_toArray, List.set_cons_zero, List.set_cons_succ]
  refine wpAnyH_take (i := 5) (v := ?_) rfl (by kernel_rfl) (by kernel_rfl) (by kernel_rfl) (fun _ _ _ h => h) (Or.inl ⟨by rfl, ?_⟩) (by assumption) ?_
  rotate_left
  · (intro W hSw; (try dsimp only at hSw); go_simp; try with_reducible rfl)
  simp only [Act.put, List.getElem_toArray, List.getElem_cons_succ, List.getElem_cons_zero, List.setIfInBounds_toArray, List.set_cons_zero, List.set_cons_succ]
  refine wpAnyH_take (i := 6) (v := ?_) rfl (by kernel_rfl) (by kernel_rfl) (by kernel_rfl) (fun _ _ _ h => h) (Or.inl ⟨by rfl, ?_⟩) (by assumption) ?_
  rotate_left
  · (intro W hSw; (try dsimp only at hSw); go_simp; try with_reducible rfl)
  simp only [Act.put, List.getElem_toArray, List.getElem_cons_succ, List.getElem_cons_zero, List.setIfInBounds_toArray, List.set_cons_zero, List.set_cons_succ]
  refine wpAnyH_take (i := 7) (v := ?_) rfl (by kernel_rfl) (by kernel_rfl) (by kernel_rfl) (fun _ _ _ h => h) (Or.inl ⟨by rfl, ?_⟩) (by assumption) ?_
  rotate_left
  · (intro W hSw; (try dsimp only at hSw); go_simp; try with_reducible rfl)
  simp only [Act.put, List.getElem_toArray, List.getElem_cons_succ, List.getElem_cons_zero, List.setIfInBounds_toArray, List.set_cons_zero, List.set_cons_succ]
  refine wpAnyH_cut (C := fun ops Q S => Hid (∀ (gP gQ kA kB : Nat) (W : World), S W → Md W kA zero → y0.heap.size ≤ kA → Md W kB zero → y0.heap.size ≤ kB → kA ≠ kB → wpAnyH Tryd.prog .any ops Q S 2 #[true, true, true, true, true, true, true, true, true, true, true, true, false, false] { tmps := ((.agg #[.bool m.f0, .bool m.f1, .bool m.f2, .bool m.f3, .bool m.f4, .bool m.f5, .bool m.f6, .bool m.f7, .int .u8 m.s0, .int .u8 m.s1, .int .i64 m.sh]) :: (.int .u8 p) :: (.int .i64 n) :: (.pointer (some ⟨w.heap.size, 0, none⟩)) :: undef :: undef :: (.bool false) :: (.pointer (some ⟨kA, 0, none⟩)) :: (.pointer (some ⟨kB, 0, none⟩)) :: undef :: undef :: undef :: undef :: undef :: (.agg #[.bool m.f0, .bool m.f1, .bool m.f2, .bool m.f3, .bool m.f4, .bool m.f5, .bool m.f6, .bool m.f7, .int .u8 m.s0, .int .u8 m.s1, .int .i64 m.sh]) :: (.int .u8 p) :: (.int .i64 n) :: (.slice (some ⟨gP, 0, none⟩) 1 1) :: (.agg #[.bool x.f0, .bool x.f1, .bool x.f2, .bool x.f3, .bool x.f4, .bool x.f5, .bool x.f6, .bool x.f7, .int .u8 x.s0, .int .u8 x.s1, .int .i64 x.sh]) :: (.agg #[.bool m.f0, .bool m.f1, .bool m.f2, .bool m.f3, .bool m.f4, .bool m.f5, .bool m.f6, .bool m.f7, .int .u8 m.s0, .int .u8 m.s1, .int .i64 m.sh]) :: (.int .u8 p) :: (.int .i64 n) :: (.slice (some ⟨gQ, 0, none⟩) 1 1) :: (.agg #[.bool y.f0, .bool y.f1, .bool y.f2, .bool y.f3, .bool y.f4, .bool y.f5, .bool y.f6, .bool y.f7, .int .u8 y.s0, .int .u8 y.s1, .int .i64 y.sh]) :: undef :: undef :: undef :: undef :: undef :: undef :: undef :: undef :: undef :: undef :: undef :: undef :: undef :: undef :: undef :: undef :: undef :: undef :: undef :: undef :: undef :: undef :: undef :: undef :: undef :: undef :: undef :: undef :: undef :: undef :: undef :: undef :: undef :: undef :: undef :: undef :: undef :: undef :: undef :: undef :: undef :: undef :: undef :: undef :: undef :: undef :: undef :: undef :: undef :: undef :: undef :: undef :: undef :: undef :: undef :: undef :: undef :: undef :: undef :: undef :: undef :: undef :: undef :: undef :: undef :: undef :: undef :: undef :: undef :: undef :: undef :: undef :: undef :: undef :: undef :: undef :: undef :: undef :: undef :: undef :: undef :: undef :: undef :: undef :: undef :: undef :: undef :: undef :: undef :: undef :: undef :: undef :: undef :: []).toArray, defers := [] } W)) (Lib.hid ?_) (fun H3_4_8_9_10_11 => ?_)
  · intro gP gQ kA kB W hHeld zA za zB zb zn
    have ZA := Lib.hid zA
    have Za := Lib.hid za
    have ZB := Lib.hid zB
    have Zb := Lib.hid zb
    have Zn := Lib.hid zn
    clear zA za zB zb zn
    clear G1 G2 HKEEP
    refine wpAnyH_ready (rs := [12]) (by kernel_rfl) (by simp) ?_
    refine AllReadyH.cons rfl (fun K hK => ?_) AllReadyH.nil
    rw [if_pos (by kernel_rfl)]
    refine wp_store_row 24 _ _ rfl kA #[.bool x.f0, .bool x.f1, .bool x.f2, .bool x.f3, .bool x.f4, .bool x.f5, .bool x.f6, .bool x.f7, .int .u8 x.s0, .int .u8 x.s1, .int .i64 x.sh] rfl rfl 24 _ ZA.out (by kernel_rfl) rfl (one_cells x) ?_
    have KE := Lib.hid (Mm.two (hHeld.2.2.2.2.2.2.2.2.2.2.2.out) KL.out kA kB x y ZA.out ZB.out Zn.out Za.out Zb.out)
    have hs' := HR.out _ kA #[.bool x.f0, .bool x.f1, .bool x.f2, .bool x.f3, .bool x.f4, .bool x.f5, .bool x.f6, .bool x.f7, .int .u8 x.s0, .int .u8 x.s1, .int .i64 x.sh] Za.out hHeld
    refine hK.out _ _ hs' (fun hHeld => ?_)
    clear hK K hs'
    refine wpAnyH_ready (rs := [13]) (by kernel_rfl) (by simp) ?_
    refine AllReadyH.cons rfl (fun K hK => ?_) AllReadyH.nil
    rw [if_pos (by kernel_rfl)]
    refine wp_store_row 24 _ _ rfl kB #[.bool y.f0, .bool y.f1, .bool y.f2, .bool y.f3, .bool y.f4, .bool y.f5, .bool y.f6, .bool y.f7, .int .u8 y.s0, .int .u8 y.s1, .int .i64 y.sh] rfl rfl 24 _ ((ZB.out).rowOther (Ne.symm Zn.out) _) (by kernel_rfl) rfl (one_cells y) ?_
    have hs' := HR.out _ kB #[.bool y.f0, .bool y.f1, .bool y.f2, .bool y.f3, .bool y.f4, .bool y.f5, .bool y.f6, .bool y.f7, .int .u8 y.s0, .int .u8 y.s1, .int .i64 y.sh] Zb.out hHeld
    refine hK.out _ _ hs' (fun hHeld => ?_)
    clear hK K hs'
    refine wpAnyH_done (by kernel_rfl) ?_ _
    have KX := Lib.hid (KE.out.rebase B0.out)
    clear hHeld HR KE ZA ZB KL Za Zb Zn
    generalize (W.setRow kA #[.bool x.f0, .bool x.f1, .bool x.f2, .bool x.f3, .bool x.f4, .bool x.f5, .bool x.f6, .bool x.f7, .int .u8 x.s0, .int .u8 x.s1, .int .i64 x.sh]).setRow kB #[.bool y.f0, .bool y.f1, .bool y.f2, .bool y.f3, .bool y.f4, .bool y.f5, .bool y.f6, .bool y.f7, .int .u8 y.s0, .int .u8 y.s1, .int .i64 y.sh] = wx at KX ⊢
    simp only [Act.put, List.getElem_toArray, List.getElem_cons_succ, List.getElem_cons_zero]
    go_upto_region 2 with fail
    go_cut [9] (fun s9 wz => s9 = .bool kn ∧ wx = wz)
    case first =>
      clear GA HDIF HE HB1 HB2 HB B0 KX
      rcases den_cases p n with ⟨h1, h2, h3⟩ | ⟨h1, h2, h3⟩ | ⟨h1, h2, h2', h3⟩ | ⟨h1, h2, h3⟩ | ⟨h1, h2, h3⟩ | ⟨h1, h2, h3⟩ | ⟨h1, h2, h3⟩ | ⟨h1, h2, h3⟩ | ⟨h1, h2, h3⟩ | ⟨h1, h2, h3⟩ | ⟨h1, h2, h3⟩ | ⟨h1, ⟨c1, c2, c3, c4, c5, c6, c7, c8⟩, h3⟩ | ⟨h1, h2, h3⟩
      · have d1 : (p == 0) = true := by simp [h1]
        have d2 : (p == 63) = false := by simp [h1]
        have f0 : (n == 4) = true := by simp [h2]
        have f1 : (n == 20) = false := by simp [h2]
        have HK := Lib.hid (show true = kn by rw [← HKN.out, ← HD.out, h3]; rfl)
        clear h1 h3 h2
        go_wp2
        go_meet
        exact ⟨congrArg Value.bool HK.out, rfl⟩
      · have d1 : (p == 0) = true := by simp [h1]
        have d2 : (p == 63) = false := by simp [h1]
        have f0 : (n == 4) = false := by simp [h2]
        have f1 : (n == 20) = true := by simp [h2]
        have HK := Lib.hid (show true = kn by rw [← HKN.out, ← HD.out, h3]; rfl)
        clear h1 h3 h2
        go_wp2
        go_meet
        exact ⟨congrArg Value.bool HK.out, rfl⟩
      · have d1 : (p == 0) = true := by simp [h1]
        have d2 : (p == 63) = false := by simp [h1]
        have f0 : (n == 4) = false := by simp [h2]
        have f1 : (n == 20) = false := by simp [h2']
        have HK := Lib.hid (show false = kn by rw [← HKN.out, ← HD.out, h3]; rfl)
        clear h1 h3 h2 h2'
        go_wp2
        go_meet
        exact ⟨congrArg Value.bool HK.out, rfl⟩
      · have d1 : (p == 0) = false := by simp [h1]
        have d2 : (p == 63) = true := by simp [h1]
        have f0 : (n == 1) = true := by simp [h2]
        have f1 : (n == 6) = false := by simp [h2]
        have f2 : (n == 7) = false := by simp [h2]
        have f3 : (n == 25) = false := by simp [h2]
        have f4 : (n == 47) = false := by simp [h2]
        have f5 : (n == 1047) = false := by simp [h2]
        have f6 : (n == 1049) = false := by simp [h2]
        have f7 : (n == 2048) = false := by simp [h2]
        have HK := Lib.hid (show true = kn by rw [← HKN.out, ← HD.out, h3]; rfl)
        clear h1 h3 h2
        go_wp2
        go_meet
        exact ⟨congrArg Value.bool HK.out, rfl⟩
      · have d1 : (p == 0) = false := by simp [h1]
        have d2 : (p == 63) = true := by simp [h1]
        have f0 : (n == 1) = false := by simp [h2]
        have f1 : (n == 6) = true := by simp [h2]
        have f2 : (n == 7) = false := by simp [h2]
        have f3 : (n == 25) = false := by simp [h2]
        have f4 : (n == 47) = false := by simp [h2]
        have f5 : (n == 1047) = false := by simp [h2]
        have f6 : (n == 1049) = false := by simp [h2]
        have f7 : (n == 2048) = false := by simp [h2]
        have HK := Lib.hid (show true = kn by rw [← HKN.out, ← HD.out, h3]; rfl)
        clear h1 h3 h2
        go_wp2
        go_meet
        exact ⟨congrArg Value.bool HK.out, rfl⟩
      · have d1 : (p == 0) = false := by simp [h1]
        have d2 : (p == 63) = true := by simp [h1]
        have f0 : (n == 1) = false := by simp [h2]
        have f1 : (n == 6) = false := by simp [h2]
        have f2 : (n == 7) = true := by simp [h2]
        have f3 : (n == 25) = false := by simp [h2]
        have f4 : (n == 47) = false := by simp [h2]
        have f5 : (n == 1047) = false := by simp [h2]
        have f6 : (n == 1049) = false := by simp [h2]
        have f7 : (n == 2048) = false := by simp [h2]
        have HK := Lib.hid (show true = kn by rw [← HKN.out, ← HD.out, h3]; rfl)
        clear h1 h3 h2
        go_wp2
        go_meet
        exact ⟨congrArg Value.bool HK.out, rfl⟩
      · have d1 : (p == 0) = false := by simp [h1]
        have d2 : (p == 63) = true := by simp [h1]
        have f0 : (n == 1) = false := by simp [h2]
        have f1 : (n == 6) = false := by simp [h2]
        have f2 : (n == 7) = false := by simp [h2]
        have f3 : (n == 25) = true := by simp [h2]
        have f4 : (n == 47) = false := by simp [h2]
        have f5 : (n == 1047) = false := by simp [h2]
        have f6 : (n == 1049) = false := by simp [h2]
        have f7 : (n == 2048) = false := by simp [h2]
        have HK := Lib.hid (show true = kn by rw [← HKN.out, ← HD.out, h3]; rfl)
        clear h1 h3 h2
        go_wp2
        go_meet
        exact ⟨congrArg Value.bool HK.out, rfl⟩
      · have d1 : (p == 0) = false := by simp [h1]
        have d2 : (p == 63) = true := by simp [h1]
        have f0 : (n == 1) = false := by simp [h2]
        have f1 : (n == 6) = false := by simp [h2]
        have f2 : (n == 7) = false := by simp [h2]
        have f3 : (n == 25) = false := by simp [h2]
        have f4 : (n == 47) = true := by simp [h2]
        have f5 : (n == 1047) = false := by simp [h2]
        have f6 : (n == 1049) = false := by simp [h2]
        have f7 : (n == 2048) = false := by simp [h2]
        have HK := Lib.hid (show true = kn by rw [← HKN.out, ← HD.out, h3]; rfl)
        clear h1 h3 h2
        go_wp2
        go_meet
        exact ⟨congrArg Value.bool HK.out, rfl⟩
      · have d1 : (p == 0) = false := by simp [h1]
        have d2 : (p == 63) = true := by simp [h1]
        have f0 : (n == 1) = false := by simp [h2]
        have f1 : (n == 6) = false := by simp [h2]
        have f2 : (n == 7) = false := by simp [h2]
        have f3 : (n == 25) = false := by simp [h2]
        have f4 : (n == 47) = false := by simp [h2]
        have f5 : (n == 1047) = true := by simp [h2]
        have f6 : (n == 1049) = false := by simp [h2]
        have f7 : (n == 2048) = false := by simp [h2]
        have HK := Lib.hid (show true = kn by rw [← HKN.out, ← HD.out, h3]; rfl)
        clear h1 h3 h2
        go_wp2
        go_meet
        exact ⟨congrArg Value.bool HK.out, rfl⟩
      · have d1 : (p == 0) = false := by simp [h1]
        have d2 : (p == 63) = true := by simp [h1]
        have f0 : (n == 1) = false := by simp [h2]
        have f1 : (n == 6) = false := by simp [h2]
        have f2 : (n == 7) = false := by simp [h2]
        have f3 : (n == 25) = false := by simp [h2]
        have f4 : (n == 47) = false := by simp [h2]
        have f5 : (n == 1047) = false := by simp [h2]
        have f6 : (n == 1049) = true := by simp [h2]
        have f7 : (n == 2048) = false := by simp [h2]
        have HK := Lib.hid (show true = kn by rw [← HKN.out, ← HD.out, h3]; rfl)
        clear h1 h3 h2
        go_wp2
        go_meet
        exact ⟨congrArg Value.bool HK.out, rfl⟩
      · have d1 : (p == 0) = false := by simp [h1]
        have d2 : (p == 63) = true := by simp [h1]
        have f0 : (n == 1) = false := by simp [h2]
        have f1 : (n == 6) = false := by simp [h2]
        have f2 : (n == 7) = false := by simp [h2]
        have f3 : (n == 25) = false := by simp [h2]
        have f4 : (n == 47) = false := by simp [h2]
        have f5 : (n == 1047) = false := by simp [h2]
        have f6 : (n == 1049) = false := by simp [h2]
        have f7 : (n == 2048) = true := by simp [h2]
        have HK := Lib.hid (show true = kn by rw [← HKN.out, ← HD.out, h3]; rfl)
        clear h1 h3 h2
        go_wp2
        go_meet
        exact ⟨congrArg Value.bool HK.out, rfl⟩
      · have d1 : (p == 0) = false := by simp [h1]
        have d2 : (p == 63) = true := by simp [h1]
        have f0 : (n == 1) = false := by simp [c1]
        have f1 : (n == 6) = false := by simp [c2]
        have f2 : (n == 7) = false := by simp [c3]
        have f3 : (n == 25) = false := by simp [c4]
        have f4 : (n == 47) = false := by simp [c5]
        have f5 : (n == 1047) = false := by simp [c6]
        have f6 : (n == 1049) = false := by simp [c7]
        have f7 : (n == 2048) = false := by simp [c8]
        have HK := Lib.hid (show false = kn by rw [← HKN.out, ← HD.out, h3]; rfl)
        clear h1 h3 c1 c2 c3 c4 c5 c6 c7 c8
        go_wp2
        go_meet
        exact ⟨congrArg Value.bool HK.out, rfl⟩
      · have d1 : (p == 0) = false := by simp [h1]
        have d2 : (p == 63) = false := by simp [h2]
        have HK := Lib.hid (show false = kn by rw [← HKN.out, ← HD.out, h3]; rfl)
        clear h1 h3 h2
        go_wp2
        go_meet
        exact ⟨congrArg Value.bool HK.out, rfl⟩
    case rest =>
      obtain ⟨rfl, rfl⟩ := hcut
      go_upto_region 3 with fail
      go_cut [84] (fun s9 wz => s9 = .bool false ∧ wx = wz)
      case first =>
        have eqA : ∀ U, (Op.equalIn 10000 24 (.agg #[.bool x.f0, .bool x.f1, .bool x.f2, .bool x.f3, .bool x.f4, .bool x.f5, .bool x.f6, .bool x.f7, .int .u8 x.s0, .int .u8 x.s1, .int .i64 x.sh]) (.agg #[.bool y.f0, .bool y.f1, .bool y.f2, .bool y.f3, .bool y.f4, .bool y.f5, .bool y.f6, .bool y.f7, .int .u8 y.s0, .int .u8 y.s1, .int .i64 y.sh])).run Tryd.prog U = .ok (!kn) U := fun U => by rw [equalIn_dec, HE.out]
        have eqB : ∀ U, (Op.equalIn 10000 24 (.agg #[.bool x.f0, .bool x.f1, .bool x.f2, .bool x.f3, .bool x.f4, .bool x.f5, .bool x.f6, .bool x.f7, .int .u8 x.s0, .int .u8 x.s1, .int .i64 x.sh]) (.agg #[.bool m.f0, .bool m.f1, .bool m.f2, .bool m.f3, .bool m.f4, .bool m.f5, .bool m.f6, .bool m.f7, .int .u8 m.s0, .int .u8 m.s1, .int .i64 m.sh])).run Tryd.prog U = .ok b1 U := fun U => by rw [equalIn_dec, HB1.out]
        have eqC : ∀ U, (Op.equalIn 10000 24 (.agg #[.bool y.f0, .bool y.f1, .bool y.f2, .bool y.f3, .bool y.f4, .bool y.f5, .bool y.f6, .bool y.f7, .int .u8 y.s0, .int .u8 y.s1, .int .i64 y.sh]) (.agg #[.bool m.f0, .bool m.f1, .bool m.f2, .bool m.f3, .bool m.f4, .bool m.f5, .bool m.f6, .bool m.f7, .int .u8 m.s0, .int .u8 m.s1, .int .i64 m.sh])).run Tryd.prog U = .ok b2 U := fun U => by rw [equalIn_dec, HB2.out]
        have eq2 := Tryd.eqGuardType24
        obtain ⟨a0, a1, a2, a3, a4, a5, a6, a7, a8, a9, a10⟩ := (KX.out.at 0 rfl).all
        obtain ⟨g0, g1, g2, g3, g4, g5, g6, g7, g8, g9, g10⟩ := (KX.out.at 1 rfl).all
        obtain ⟨d0, d1, d2, d3, d4, d5, d6, d7, d8, d9, d10⟩ := (KX.out.at 2 rfl).all
        have hb := HB.out
        clear GA HDIF HE HB1 HB2 HB B0 KX HD HKN
        cases kn <;> cases b1 <;> cases b2 <;> (first | (exfalso; simp at hb; done) | (clear hb; go_wp2; go_meet; exact ⟨rfl, rfl⟩))
      case rest =>
      obtain ⟨rfl, rfl⟩ := hcut
      clear HE HB1 HB2 HB
      have G3 := Lib.hid (fun U => flags_any x U)
      have G4 := Lib.hid (fun U => flags_any y U)
      go_wp2_with fail
      have key0 : ∀ U, Mm w U [(w.heap.size, m), (kA, x), (kB, y)] → (U.cell? ⟨kA, 0, none⟩ = some (.bool x.f0) ∧ U.cell? ⟨kA, 1, none⟩ = some (.bool x.f1) ∧ U.cell? ⟨kA, 2, none⟩ = some (.bool x.f2) ∧ U.cell? ⟨kA, 3, none⟩ = some (.bool x.f3) ∧ U.cell? ⟨kA, 4, none⟩ = some (.bool x.f4) ∧ U.cell? ⟨kA, 5, none⟩ = some (.bool x.f5) ∧ U.cell? ⟨kA, 6, none⟩ = some (.bool x.f6) ∧ U.cell? ⟨kA, 7, none⟩ = some (.bool x.f7) ∧ U.cell? ⟨kA, 8, none⟩ = some (.int .u8 x.s0) ∧ U.cell? ⟨kA, 9, none⟩ = some (.int .u8 x.s1) ∧ U.cell? ⟨kA, 10, none⟩ = some (.int .i64 x.sh) ∧ U.cell? ⟨kB, 0, none⟩ = some (.bool y.f0) ∧ U.cell? ⟨kB, 1, none⟩ = some (.bool y.f1) ∧ U.cell? ⟨kB, 2, none⟩ = some (.bool y.f2) ∧ U.cell? ⟨kB, 3, none⟩ = some (.bool y.f3) ∧ U.cell? ⟨kB, 4, none⟩ = some (.bool y.f4) ∧ U.cell? ⟨kB, 5, none⟩ = some (.bool y.f5) ∧ U.cell? ⟨kB, 6, none⟩ = some (.bool y.f6) ∧ U.cell? ⟨kB, 7, none⟩ = some (.bool y.f7) ∧ U.cell? ⟨kB, 8, none⟩ = some (.int .u8 y.s0) ∧ U.cell? ⟨kB, 9, none⟩ = some (.int .u8 y.s1) ∧ U.cell? ⟨kB, 10, none⟩ = some (.int .i64 y.sh) ∧ Aside (Mm w U [(w.heap.size, m), (kA, x), (kB, y)])) := fun U k => by
        obtain ⟨a1_0, a1_1, a1_2, a1_3, a1_4, a1_5, a1_6, a1_7, a1_8, a1_9, a1_10⟩ := (k.at 1 rfl).all
        obtain ⟨a2_0, a2_1, a2_2, a2_3, a2_4, a2_5, a2_6, a2_7, a2_8, a2_9, a2_10⟩ := (k.at 2 rfl).all
        exact ⟨a1_0, a1_1, a1_2, a1_3, a1_4, a1_5, a1_6, a1_7, a1_8, a1_9, a1_10, a2_0, a2_1, a2_2, a2_3, a2_4, a2_5, a2_6, a2_7, a2_8, a2_9, a2_10, k⟩
      have HKEEP : Hid (∀ (U U' : World), (U.cell? ⟨kA, 0, none⟩ = some (.bool x.f0) ∧ U.cell? ⟨kA, 1, none⟩ = some (.bool x.f1) ∧ U.cell? ⟨kA, 2, none⟩ = some (.bool x.f2) ∧ U.cell? ⟨kA, 3, none⟩ = some (.bool x.f3) ∧ U.cell? ⟨kA, 4, none⟩ = some (.bool x.f4) ∧ U.cell? ⟨kA, 5, none⟩ = some (.bool x.f5) ∧ U.cell? ⟨kA, 6, none⟩ = some (.bool x.f6) ∧ U.cell? ⟨kA, 7, none⟩ = some (.bool x.f7) ∧ U.cell? ⟨kA, 8, none⟩ = some (.int .u8 x.s0) ∧ U.cell? ⟨kA, 9, none⟩ = some (.int .u8 x.s1) ∧ U.cell? ⟨kA, 10, none⟩ = some (.int .i64 x.sh) ∧ U.cell? ⟨kB, 0, none⟩ = some (.bool y.f0) ∧ U.cell? ⟨kB, 1, none⟩ = some (.bool y.f1) ∧ U.cell? ⟨kB, 2, none⟩ = some (.bool y.f2) ∧ U.cell? ⟨kB, 3, none⟩ = some (.bool y.f3) ∧ U.cell? ⟨kB, 4, none⟩ = some (.bool y.f4) ∧ U.cell? ⟨kB, 5, none⟩ = some (.bool y.f5) ∧ U.cell? ⟨kB, 6, none⟩ = some (.bool y.f6) ∧ U.cell? ⟨kB, 7, none⟩ = some (.bool y.f7) ∧ U.cell? ⟨kB, 8, none⟩ = some (.int .u8 y.s0) ∧ U.cell? ⟨kB, 9, none⟩ = some (.int .u8 y.s1) ∧ U.cell? ⟨kB, 10, none⟩ = some (.int .i64 y.sh) ∧ Aside (Mm w U [(w.heap.size, m), (kA, x), (kB, y)])) → Below U.heap.size U U' → (U'.cell? ⟨kA, 0, none⟩ = some (.bool x.f0) ∧ U'.cell? ⟨kA, 1, none⟩ = some (.bool x.f1) ∧ U'.cell? ⟨kA, 2, none⟩ = some (.bool x.f2) ∧ U'.cell? ⟨kA, 3, none⟩ = some (.bool x.f3) ∧ U'.cell? ⟨kA, 4, none⟩ = some (.bool x.f4) ∧ U'.cell? ⟨kA, 5, none⟩ = some (.bool x.f5) ∧ U'.cell? ⟨kA, 6, none⟩ = some (.bool x.f6) ∧ U'.cell? ⟨kA, 7, none⟩ = some (.bool x.f7) ∧ U'.cell? ⟨kA, 8, none⟩ = some (.int .u8 x.s0) ∧ U'.cell? ⟨kA, 9, none⟩ = some (.int .u8 x.s1) ∧ U'.cell? ⟨kA, 10, none⟩ = some (.int .i64 x.sh) ∧ U'.cell? ⟨kB, 0, none⟩ = some (.bool y.f0) ∧ U'.cell? ⟨kB, 1, none⟩ = some (.bool y.f1) ∧ U'.cell? ⟨kB, 2, none⟩ = some (.bool y.f2) ∧ U'.cell? ⟨kB, 3, none⟩ = some (.bool y.f3) ∧ U'.cell? ⟨kB, 4, none⟩ = some (.bool y.f4) ∧ U'.cell? ⟨kB, 5, none⟩ = some (.bool y.f5) ∧ U'.cell? ⟨kB, 6, none⟩ = some (.bool y.f6) ∧ U'.cell? ⟨kB, 7, none⟩ = some (.bool y.f7) ∧ U'.cell? ⟨kB, 8, none⟩ = some (.int .u8 y.s0) ∧ U'.cell? ⟨kB, 9, none⟩ = some (.int .u8 y.s1) ∧ U'.cell? ⟨kB, 10, none⟩ = some (.int .i64 y.sh) ∧ Aside (Mm w U' [(w.heap.size, m), (kA, x), (kB, y)]))) := Lib.hid (fun U U' hs hu => key0 U' (hs.2.2.2.2.2.2.2.2.2.2.2.2.2.2.2.2.2.2.2.2.2.2.out.below hu))
      have hS := key0 wx.drew (KX.out.below (Below.refl _ _).drew)
      clear key0
      clear KX
      refine wp_region_held_drew (S := fun U => U.cell? ⟨kA, 0, none⟩ = some (.bool x.f0) ∧ U.cell? ⟨kA, 1, none⟩ = some (.bool x.f1) ∧ U.cell? ⟨kA, 2, none⟩ = some (.bool x.f2) ∧ U.cell? ⟨kA, 3, none⟩ = some (.bool x.f3) ∧ U.cell? ⟨kA, 4, none⟩ = some (.bool x.f4) ∧ U.cell? ⟨kA, 5, none⟩ = some (.bool x.f5) ∧ U.cell? ⟨kA, 6, none⟩ = some (.bool x.f6) ∧ U.cell? ⟨kA, 7, none⟩ = some (.bool x.f7) ∧ U.cell? ⟨kA, 8, none⟩ = some (.int .u8 x.s0) ∧ U.cell? ⟨kA, 9, none⟩ = some (.int .u8 x.s1) ∧ U.cell? ⟨kA, 10, none⟩ = some (.int .i64 x.sh) ∧ U.cell? ⟨kB, 0, none⟩ = some (.bool y.f0) ∧ U.cell? ⟨kB, 1, none⟩ = some (.bool y.f1) ∧ U.cell? ⟨kB, 2, none⟩ = some (.bool y.f2) ∧ U.cell? ⟨kB, 3, none⟩ = some (.bool y.f3) ∧ U.cell? ⟨kB, 4, none⟩ = some (.bool y.f4) ∧ U.cell? ⟨kB, 5, none⟩ = some (.bool y.f5) ∧ U.cell? ⟨kB, 6, none⟩ = some (.bool y.f6) ∧ U.cell? ⟨kB, 7, none⟩ = some (.bool y.f7) ∧ U.cell? ⟨kB, 8, none⟩ = some (.int .u8 y.s0) ∧ U.cell? ⟨kB, 9, none⟩ = some (.int .u8 y.s1) ∧ U.cell? ⟨kB, 10, none⟩ = some (.int .i64 y.sh) ∧ Aside (Mm w U [(w.heap.size, m), (kA, x), (kB, y)])) (by kernel_rfl) hS (fun hHeld => ?_)
      clear hS
      refine wpAnyH_take (i := 0) (v := ?_) rfl (by kernel_rfl) (by kernel_rfl) (by kernel_rfl) (fun _ _ _ h => h) (Or.inl ⟨by rfl, ?_⟩) (by assumption) ?_
      rotate_left
      · (intro W hSw; (try dsimp only at hSw); go_simp; try with_reducible rfl)
      simp only [Act.put, List.getElem_toArray, List.getElem_cons_zero, List.setIfInBounds_toArray, List.set_cons_zero, List.set_cons_succ]
      refine wpAnyH_take (i := 2) (v := ?_) rfl (by kernel_rfl) (by kernel_rfl) (by kernel_rfl) (fun _ _ _ h => h) (Or.inl ⟨by rfl, ?_⟩) (by assumption) ?_
      rotate_left
      · (intro W hSw; (try dsimp only at hSw); go_simp; try with_reducible rfl)
      simp only [Act.put, List.getElem_toArray, List.getElem_cons_succ, List.getElem_cons_zero, List.setIfInBounds_toArray, List.set_cons_zero, List.set_cons_succ]
      refine wpAnyH_ready (rs := [1]) (by kernel_rfl) (by simp) ?_
      refine AllReadyH.cons rfl (fun K hK => ?_) AllReadyH.nil
      go_simp
      (with_reducible refine (G3.out _).mono ?_); rintro e w' ⟨⟨ka, rfl, ga, gb, gc⟩, hb'⟩; have FX := Lib.hid (And.intro gb gc); have hs' := HKEEP.out _ _ hHeld hb'; clear hHeld hb' ga gb gc
      refine hK.out _ _ hs' (fun hHeld => ?_)
      clear hK K hs'
      refine wpAnyH_ready (rs := [3]) (by kernel_rfl) (by simp) ?_
      refine AllReadyH.cons rfl (fun K hK => ?_) AllReadyH.nil
      go_simp
      (with_reducible refine (G4.out _).mono ?_); rintro e w5 ⟨⟨kb, rfl, ga, gb, gc⟩, hb'⟩; have FY := Lib.hid (And.intro gb gc); have FX2 : Hid (ka < w5.heap.size ∧ ∀ i, i < 8 → w5.cell? ⟨ka, i, none⟩ = some (.bool (x.get i))) := Lib.hid ⟨Nat.lt_of_lt_of_le FX.out.1 hb'.size, fun i hi => (hb'.cell (p := ⟨ka, i, none⟩) FX.out.1).trans (FX.out.2 i hi)⟩; have hs' := HKEEP.out _ _ hHeld hb'; clear hHeld hb' ga gb gc FX
      refine hK.out _ _ hs' (fun hHeld => ?_)
      clear hK K hs'
      refine wpAnyH_take (i := 4) (v := ?_) rfl (by kernel_rfl) (by kernel_rfl) (by kernel_rfl) (fun _ _ _ h => h) (Or.inl ⟨by rfl, ?_⟩) (by assumption) ?_
      rotate_left
      · (intro W hSw; (try dsimp only at hSw); go_simp; try with_reducible rfl)
      simp only [Act.put, List.getElem_toArray, List.getElem_cons_succ, List.getElem_cons_zero, List.setIfInBounds_toArray, List.set_cons_zero, List.set_cons_succ]
      refine wpAnyH_take (i := 5) (v := ?_) rfl (by kernel_rfl) (by kernel_rfl) (by kernel_rfl) (fun _ _ _ h => h) (Or.inl ⟨by rfl, ?_⟩) (by assumption) ?_
      rotate_left
      · (intro W hSw; (try dsimp only at hSw); go_simp; try with_reducible rfl)
      simp only [Act.put, List.getElem_toArray, List.getElem_cons_succ, List.getElem_cons_zero, List.setIfInBounds_toArray, List.set_cons_zero, List.set_cons_succ]
      refine wpAnyH_done (by kernel_rfl) ?_ _
      have B5 := Lib.hid (hHeld.2.2.2.2.2.2.2.2.2.2.2.2.2.2.2.2.2.2.2.2.2.2.out.1)
      clear hHeld HKEEP G3 G4 B0
      go_wp2
      go_loopg [12, 13] 9 (fun gg s12 s13 wr => ∃ (k : Nat) (z : Int), k ≤ 8 ∧ 8 - k < gg ∧ s13 = .int .i64 k ∧ s12 = .int .i64 z ∧ Aside (z = if j < k then 1 else 0) ∧ Aside (Below w5.heap.size w5 wr))
      case atStart => exact ⟨0, 0, by omega, by omega, rfl, rfl, (show (0 : Int) = if j < 0 then 1 else 0 by simp), Below.refl _ _⟩
      case round =>
        obtain ⟨k, z, hk, hg, rfl, rfl, HZ, BW⟩ := hrel
        by_cases hkn : k < 8
        · have hz : (k : Int) < 8 := by omega
          have hz0 : (0 : Int) ≤ (k : Int) := by omega
          have d := HDIF.out k hkn
          have cx := (BW.out.cell (p := ⟨ka, k, none⟩) FX2.out.1).trans (FX2.out.2 k hkn)
          have cy := (BW.out.cell (p := ⟨kb, k, none⟩) FY.out.1).trans (FY.out.2 k hkn)
          generalize x.get k = xk at d cx
          generalize y.get k = yk at d cy
          have HG := Lib.hid hg
          have HKK := Lib.hid hkn
          by_cases hj : k = j
          · have d' : (xk != yk) = true := by rw [d]; exact decide_eq_true hj
            obtain rfl : z = 0 := by have := HZ.out; rw [if_neg (by omega)] at this; exact this
            have HJ := Lib.hid hj
            clear d hj hkn HZ
            cases xk with
            | true =>
              cases yk with
              | true => exact absurd d' (by simp)
              | false =>
                clear d'
                go_wp2
                go_quiet (fail)
                go_wp2
                go_roundg (9 - (k + 1))
                case measure => have := HG.out; omega
                case rel =>
                  refine ⟨k + 1, 1, by have := HKK.out; omega, by have := HG.out; omega, by go_num, rfl, ?_, below_drewN BW.out nq⟩
                  show (1 : Int) = if j < k + 1 then 1 else 0
                  rw [if_pos (by have := HJ.out; omega)]
            | false =>
              cases yk with
              | true =>
                clear d'
                go_wp2
                go_quiet (fail)
                go_wp2
                go_roundg (9 - (k + 1))
                case measure => have := HG.out; omega
                case rel =>
                  refine ⟨k + 1, 1, by have := HKK.out; omega, by have := HG.out; omega, by go_num, rfl, ?_, below_drewN BW.out nq⟩
                  show (1 : Int) = if j < k + 1 then 1 else 0
                  rw [if_pos (by have := HJ.out; omega)]
              | false => exact absurd d' (by simp)
          · have d' : (xk != yk) = false := by rw [d]; exact decide_eq_false hj
            have HZ2 := Lib.hid (show z = if j < k + 1 then 1 else 0 by
              have := HZ.out
              rw [this]
              by_cases h : j < k
              · rw [if_pos h, if_pos (by omega)]
              · rw [if_neg h, if_neg (by omega)])
            clear d hj hkn HZ
            cases xk with
            | true =>
              cases yk with
              | true =>
                clear d'
                go_wp2
                go_quiet (fail)
                go_wp2
                go_roundg (9 - (k + 1))
                case measure => have := HG.out; omega
                case rel => exact ⟨k + 1, z, by have := HKK.out; omega, by have := HG.out; omega, by go_num, rfl, HZ2.out, below_drewN BW.out nq⟩
              | false => exact absurd d' (by simp)
            | false =>
              cases yk with
              | true => exact absurd d' (by simp)
              | false =>
                clear d'
                go_wp2
                go_quiet (fail)
                go_wp2
                go_roundg (9 - (k + 1))
                case measure => have := HG.out; omega
                case rel => exact ⟨k + 1, z, by have := HKK.out; omega, by have := HG.out; omega, by go_num, rfl, HZ2.out, below_drewN BW.out nq⟩
        · have hz : ¬ (k : Int) < 8 := by omega
          have h8 : k = 8 := by omega
          have hzz := HZ.out
          rw [h8] at hzz
          have B6 := Lib.hid (B5.out.trans (BW.out.mono B5.out.size))
          have hkn' := HKN.out
          have ekk : (kn == kn) = true := by simp
          have e1 : (z == 1) = kn := by rw [hzz, ← hkn']; by_cases h : j < 8 <;> simp [h]
          have e2 : z ≤ 1 := by rw [hzz]; split <;> omega
          clear hzz hkn' HZ HKN HD HDIF FX2 FY BW hkn h8
          go_wp2_with fail
          refine (GA.out _ B6.out).mono ?_
          rintro e w7 ⟨rfl, b7⟩
          have B7 := Lib.hid (below_step B6.out b7)
          clear b7
          go_wp2
          go_ret
          exact ⟨rfl, B7.out⟩
  refine wpAnyH_cut (C := fun ops Q S => Hid (∀ (gP gQ kA : Nat) (W : World), S W → Md W kA zero → y0.heap.size ≤ kA → wpAnyH Tryd.prog .any ops Q S 3 #[true, true, true, true, true, true, true, true, true, true, true, false, false, false] { tmps := ((.agg #[.bool m.f0, .bool m.f1, .bool m.f2, .bool m.f3, .bool m.f4, .bool m.f5, .bool m.f6, .bool m.f7, .int .u8 m.s0, .int .u8 m.s1, .int .i64 m.sh]) :: (.int .u8 p) :: (.int .i64 n) :: (.pointer (some ⟨w.heap.size, 0, none⟩)) :: undef :: undef :: (.bool false) :: (.pointer (some ⟨kA, 0, none⟩)) :: undef :: undef :: undef :: undef :: undef :: undef :: (.agg #[.bool m.f0, .bool m.f1, .bool m.f2, .bool m.f3, .bool m.f4, .bool m.f5, .bool m.f6, .bool m.f7, .int .u8 m.s0, .int .u8 m.s1, .int .i64 m.sh]) :: (.int .u8 p) :: (.int .i64 n) :: (.slice (some ⟨gP, 0, none⟩) 1 1) :: (.agg #[.bool x.f0, .bool x.f1, .bool x.f2, .bool x.f3, .bool x.f4, .bool x.f5, .bool x.f6, .bool x.f7, .int .u8 x.s0, .int .u8 x.s1, .int .i64 x.sh]) :: (.agg #[.bool m.f0, .bool m.f1, .bool m.f2, .bool m.f3, .bool m.f4, .bool m.f5, .bool m.f6, .bool m.f7, .int .u8 m.s0, .int .u8 m.s1, .int .i64 m.sh]) :: (.int .u8 p) :: (.int .i64 n) :: (.slice (some ⟨gQ, 0, none⟩) 1 1) :: (.agg #[.bool y.f0, .bool y.f1, .bool y.f2, .bool y.f3, .bool y.f4, .bool y.f5, .bool y.f6, .bool y.f7, .int .u8 y.s0, .int .u8 y.s1, .int .i64 y.sh]) :: undef :: undef :: undef :: undef :: undef :: undef :: undef :: undef :: undef :: undef :: undef :: undef :: undef :: undef :: undef :: undef :: undef :: undef :: undef :: undef :: undef :: undef :: undef :: undef :: undef :: undef :: undef :: undef :: undef :: undef :: undef :: undef :: undef :: undef :: undef :: undef :: undef :: undef :: undef :: undef :: undef :: undef :: undef :: undef :: undef :: undef :: undef :: undef :: undef :: undef :: undef :: undef :: undef :: undef :: undef :: undef :: undef :: undef :: undef :: undef :: undef :: undef :: undef :: undef :: undef :: undef :: undef :: undef :: undef :: undef :: undef :: undef :: undef :: undef :: undef :: undef :: undef :: undef :: undef :: undef :: undef :: undef :: undef :: undef :: undef :: undef :: undef :: undef :: undef :: undef :: undef :: undef :: undef :: []).toArray, defers := [] } W)) (Lib.hid ?_) (fun H3_4_8_9_10 => ?_)
  · intro gP gQ kA W hHeld zA za
    have ZA := Lib.hid zA
    have Za := Lib.hid za
    clear zA za
    clear GA HD HKN HDIF HE HB1 HB2 HB HR
    refine wpAnyH_ready (rs := [11]) (by kernel_rfl) (by simp) ?_
    refine AllReadyH.cons rfl (fun K hK => ?_) AllReadyH.nil
    go_simp
    have hb' := below_alloc W (.cells #[.bool false, .bool false, .bool false, .bool false, .bool false, .bool false, .bool false, .bool false, .int .u8 0, .int .u8 0, .int .i64 0] 24)
    have hs' := HKEEP.out _ _ hHeld hb'
    refine hK.out _ _ hs' (fun hH2 => ?_)
    exact H3_4_8_9_10_11.out gP gQ kA W.heap.size (W.alloc (.cells #[.bool false, .bool false, .bool false, .bool false, .bool false, .bool false, .bool false, .bool false, .int .u8 0, .int .u8 0, .int .i64 0] 24)) hH2 (ZA.out.below hb') Za.out (Md.laid W zero) (hHeld.2.2.2.2.2.2.2.2.2.2.2.out.1.size) (by have := ZA.out.lt; omega)
  refine wpAnyH_cut (C := fun ops Q S => Hid (∀ (gP gQ kB : Nat) (W : World), S W → Md W kB zero → y0.heap.size ≤ kB → wpAnyH Tryd.prog .any ops Q S 3 #[true, true, true, true, true, true, true, true, true, true, false, true, false, false] { tmps := ((.agg #[.bool m.f0, .bool m.f1, .bool m.f2, .bool m.f3, .bool m.f4, .bool m.f5, .bool m.f6, .bool m.f7, .int .u8 m.s0, .int .u8 m.s1, .int .i64 m.sh]) :: (.int .u8 p) :: (.int .i64 n) :: (.pointer (some ⟨w.heap.size, 0, none⟩)) :: undef :: undef :: (.bool false) :: undef :: (.pointer (some ⟨kB, 0, none⟩)) :: undef :: undef :: undef :: undef :: undef :: (.agg #[.bool m.f0, .bool m.f1, .bool m.f2, .bool m.f3, .bool m.f4, .bool m.f5, .bool m.f6, .bool m.f7, .int .u8 m.s0, .int .u8 m.s1, .int .i64 m.sh]) :: (.int .u8 p) :: (.int .i64 n) :: (.slice (some ⟨gP, 0, none⟩) 1 1) :: (.agg #[.bool x.f0, .bool x.f1, .bool x.f2, .bool x.f3, .bool x.f4, .bool x.f5, .bool x.f6, .bool x.f7, .int .u8 x.s0, .int .u8 x.s1, .int .i64 x.sh]) :: (.agg #[.bool m.f0, .bool m.f1, .bool m.f2, .bool m.f3, .bool m.f4, .bool m.f5, .bool m.f6, .bool m.f7, .int .u8 m.s0, .int .u8 m.s1, .int .i64 m.sh]) :: (.int .u8 p) :: (.int .i64 n) :: (.slice (some ⟨gQ, 0, none⟩) 1 1) :: (.agg #[.bool y.f0, .bool y.f1, .bool y.f2, .bool y.f3, .bool y.f4, .bool y.f5, .bool y.f6, .bool y.f7, .int .u8 y.s0, .int .u8 y.s1, .int .i64 y.sh]) :: undef :: undef :: undef :: undef :: undef :: undef :: undef :: undef :: undef :: undef :: undef :: undef :: undef :: undef :: undef :: undef :: undef :: undef :: undef :: undef :: undef :: undef :: undef :: undef :: undef :: undef :: undef :: undef :: undef :: undef :: undef :: undef :: undef :: undef :: undef :: undef :: undef :: undef :: undef :: undef :: undef :: undef :: undef :: undef :: undef :: undef :: undef :: undef :: undef :: undef :: undef :: undef :: undef :: undef :: undef :: undef :: undef :: undef :: undef :: undef :: undef :: undef :: undef :: undef :: undef :: undef :: undef :: undef :: undef :: undef :: undef :: undef :: undef :: undef :: undef :: undef :: undef :: undef :: undef :: undef :: undef :: undef :: undef :: undef :: undef :: undef :: undef :: undef :: undef :: undef :: undef :: undef :: undef :: []).toArray, defers := [] } W)) (Lib.hid ?_) (fun H3_4_8_9_11 => ?_)
  · intro gP gQ kB W hHeld zB zb
    have ZB := Lib.hid zB
    have Zb := Lib.hid zb
    clear zB zb
    clear GA HD HKN HDIF HE HB1 HB2 HB HR
    refine wpAnyH_ready (rs := [10]) (by kernel_rfl) (by simp) ?_
    refine AllReadyH.cons rfl (fun K hK => ?_) AllReadyH.nil
    go_simp
    have hb' := below_alloc W (.cells #[.bool false, .bool false, .bool false, .bool false, .bool false, .bool false, .bool false, .bool false, .int .u8 0, .int .u8 0, .int .i64 0] 24)
    have hs' := HKEEP.out _ _ hHeld hb'
    refine hK.out _ _ hs' (fun hH2 => ?_)
    exact H3_4_8_9_10_11.out gP gQ W.heap.size kB (W.alloc (.cells #[.bool false, .bool false, .bool false, .bool false, .bool false, .bool false, .bool false, .bool false, .int .u8 0, .int .u8 0, .int .i64 0] 24)) hH2 (Md.laid W zero) (hHeld.2.2.2.2.2.2.2.2.2.2.2.out.1.size) (ZB.out.below hb') Zb.out (by have := ZB.out.lt; omega)
  refine wpAnyH_cut (C := fun ops Q S => Hid (∀ (gP gQ kA kB : Nat) (W : World), S W → Nums W W.heap.size (some ⟨gQ, 0, none⟩) 1 [n] → Md W kA zero → y0.heap.size ≤ kA → Md W kB zero → y0.heap.size ≤ kB → kA ≠ kB → wpAnyH Tryd.prog .any ops Q S 3 #[true, true, true, true, true, true, true, true, true, false, true, true, false, false] { tmps := ((.agg #[.bool m.f0, .bool m.f1, .bool m.f2, .bool m.f3, .bool m.f4, .bool m.f5, .bool m.f6, .bool m.f7, .int .u8 m.s0, .int .u8 m.s1, .int .i64 m.sh]) :: (.int .u8 p) :: (.int .i64 n) :: (.pointer (some ⟨w.heap.size, 0, none⟩)) :: undef :: undef :: (.bool false) :: (.pointer (some ⟨kA, 0, none⟩)) :: (.pointer (some ⟨kB, 0, none⟩)) :: undef :: undef :: undef :: undef :: undef :: (.agg #[.bool m.f0, .bool m.f1, .bool m.f2, .bool m.f3, .bool m.f4, .bool m.f5, .bool m.f6, .bool m.f7, .int .u8 m.s0, .int .u8 m.s1, .int .i64 m.sh]) :: (.int .u8 p) :: (.int .i64 n) :: (.slice (some ⟨gP, 0, none⟩) 1 1) :: (.agg #[.bool x.f0, .bool x.f1, .bool x.f2, .bool x.f3, .bool x.f4, .bool x.f5, .bool x.f6, .bool x.f7, .int .u8 x.s0, .int .u8 x.s1, .int .i64 x.sh]) :: (.agg #[.bool m.f0, .bool m.f1, .bool m.f2, .bool m.f3, .bool m.f4, .bool m.f5, .bool m.f6, .bool m.f7, .int .u8 m.s0, .int .u8 m.s1, .int .i64 m.sh]) :: (.int .u8 p) :: (.int .i64 n) :: (.slice (some ⟨gQ, 0, none⟩) 1 1) :: undef :: undef :: undef :: undef :: undef :: undef :: undef :: undef :: undef :: undef :: undef :: undef :: undef :: undef :: undef :: undef :: undef :: undef :: undef :: undef :: undef :: undef :: undef :: undef :: undef :: undef :: undef :: undef :: undef :: undef :: undef :: undef :: undef :: undef :: undef :: undef :: undef :: undef :: undef :: undef :: undef :: undef :: undef :: undef :: undef :: undef :: undef :: undef :: undef :: undef :: undef :: undef :: undef :: undef :: undef :: undef :: undef :: undef :: undef :: undef :: undef :: undef :: undef :: undef :: undef :: undef :: undef :: undef :: undef :: undef :: undef :: undef :: undef :: undef :: undef :: undef :: undef :: undef :: undef :: undef :: undef :: undef :: undef :: undef :: undef :: undef :: undef :: undef :: undef :: undef :: undef :: undef :: undef :: undef :: []).toArray, defers := [] } W)) (Lib.hid ?_) (fun H3_4_8_10_11 => ?_)
  · intro gP gQ kA kB W hHeld zQ zA za zB zb zn
    have ZQ := Lib.hid zQ
    have ZA := Lib.hid zA
    have Za := Lib.hid za
    have ZB := Lib.hid zB
    have Zb := Lib.hid zb
    have Zn := Lib.hid zn
    clear zQ zA za zB zb zn
    clear GA HD HKN HDIF HE HB1 HB2 HB HR
    refine wpAnyH_ready (rs := [9]) (by kernel_rfl) (by simp) ?_
    refine AllReadyH.cons rfl (fun K hK => ?_) AllReadyH.nil
    go_simp
    (with_reducible refine (G2.out gQ _ ZQ.out).mono ?_)
    rintro e w' ⟨rfl, hb'⟩
    have hs' := HKEEP.out _ _ hHeld hb'
    refine hK.out _ _ hs' (fun hH2 => ?_)
    exact H3_4_8_9_10_11.out gP gQ kA kB _ hH2 (ZA.out.below hb') Za.out (ZB.out.below hb') Zb.out Zn.out
  refine wpAnyH_cut (C := fun ops Q S => Hid (∀ (gP gQ : Nat) (W : World), S W → wpAnyH Tryd.prog .any ops Q S 4 #[true, true, true, true, true, true, true, true, true, true, false, false, false, false] { tmps := ((.agg #[.bool m.f0, .bool m.f1, .bool m.f2, .bool m.f3, .bool m.f4, .bool m.f5, .bool m.f6, .bool m.f7, .int .u8 m.s0, .int .u8 m.s1, .int .i64 m.sh]) :: (.int .u8 p) :: (.int .i64 n) :: (.pointer (some ⟨w.heap.size, 0, none⟩)) :: undef :: undef :: (.bool false) :: undef :: undef :: undef :: undef :: undef :: undef :: undef :: (.agg #[.bool m.f0, .bool m.f1, .bool m.f2, .bool m.f3, .bool m.f4, .bool m.f5, .bool m.f6, .bool m.f7, .int .u8 m.s0, .int .u8 m.s1, .int .i64 m.sh]) :: (.int .u8 p) :: (.int .i64 n) :: (.slice (some ⟨gP, 0, none⟩) 1 1) :: (.agg #[.bool x.f0, .bool x.f1, .bool x.f2, .bool x.f3, .bool x.f4, .bool x.f5, .bool x.f6, .bool x.f7, .int .u8 x.s0, .int .u8 x.s1, .int .i64 x.sh]) :: (.agg #[.bool m.f0, .bool m.f1, .bool m.f2, .bool m.f3, .bool m.f4, .bool m.f5, .bool m.f6, .bool m.f7, .int .u8 m.s0, .int .u8 m.s1, .int .i64 m.sh]) :: (.int .u8 p) :: (.int .i64 n) :: (.slice (some ⟨gQ, 0, none⟩) 1 1) :: (.agg #[.bool y.f0, .bool y.f1, .bool y.f2, .bool y.f3, .bool y.f4, .bool y.f5, .bool y.f6, .bool y.f7, .int .u8 y.s0, .int .u8 y.s1, .int .i64 y.sh]) :: undef :: undef :: undef :: undef :: undef :: undef :: undef :: undef :: undef :: undef :: undef :: undef :: undef :: undef :: undef :: undef :: undef :: undef :: undef :: undef :: undef :: undef :: undef :: undef :: undef :: undef :: undef :: undef :: undef :: undef :: undef :: undef :: undef :: undef :: undef :: undef :: undef :: undef :: undef :: undef :: undef :: undef :: undef :: undef :: undef :: undef :: undef :: undef :: undef :: undef :: undef :: undef :: undef :: undef :: undef :: undef :: undef :: undef :: undef :: undef :: undef :: undef :: undef :: undef :: undef :: undef :: undef :: undef :: undef :: undef :: undef :: undef :: undef :: undef :: undef :: undef :: undef :: undef :: undef :: undef :: undef :: undef :: undef :: undef :: undef :: undef :: undef :: undef :: undef :: undef :: undef :: undef :: undef :: []).toArray, defers := [] } W)) (Lib.hid ?_) (fun H3_4_8_9 => ?_)
  · intro gP gQ W hHeld
    clear GA HD HKN HDIF HE HB1 HB2 HB HR
    refine wpAnyH_ready (rs := [10, 11]) (by kernel_rfl) (by simp) ?_
    refine AllReadyH.cons rfl (fun K hK => ?_) (AllReadyH.cons rfl (fun K hK => ?_) AllReadyH.nil)
    · go_simp
      have hb' := below_alloc W (.cells #[.bool false, .bool false, .bool false, .bool false, .bool false, .bool false, .bool false, .bool false, .int .u8 0, .int .u8 0, .int .i64 0] 24)
      have hs' := HKEEP.out _ _ hHeld hb'
      refine hK.out _ _ hs' (fun hH2 => ?_)
      exact H3_4_8_9_10.out gP gQ W.heap.size (W.alloc (.cells #[.bool false, .bool false, .bool false, .bool false, .bool false, .bool false, .bool false, .bool false, .int .u8 0, .int .u8 0, .int .i64 0] 24)) hH2 (Md.laid W zero) (hHeld.2.2.2.2.2.2.2.2.2.2.2.out.1.size)
    · go_simp
      have hb' := below_alloc W (.cells #[.bool false, .bool false, .bool false, .bool false, .bool false, .bool false, .bool false, .bool false, .int .u8 0, .int .u8 0, .int .i64 0] 24)
      have hs' := HKEEP.out _ _ hHeld hb'
      refine hK.out _ _ hs' (fun hH2 => ?_)
      exact H3_4_8_9_11.out gP gQ W.heap.size (W.alloc (.cells #[.bool false, .bool false, .bool false, .bool false, .bool false, .bool false, .bool false, .bool false, .int .u8 0, .int .u8 0, .int .i64 0] 24)) hH2 (Md.laid W zero) (hHeld.2.2.2.2.2.2.2.2.2.2.2.out.1.size)
  refine wpAnyH_cut (C := fun ops Q S => Hid (∀ (gP gQ kA : Nat) (W : World), S W → Nums W W.heap.size (some ⟨gQ, 0, none⟩) 1 [n] → Md W kA zero → y0.heap.size ≤ kA → wpAnyH Tryd.prog .any ops Q S 4 #[true, true, true, true, true, true, true, true, true, false, true, false, false, false] { tmps := ((.agg #[.bool m.f0, .bool m.f1, .bool m.f2, .bool m.f3, .bool m.f4, .bool m.f5, .bool m.f6, .bool m.f7, .int .u8 m.s0, .int .u8 m.s1, .int .i64 m.sh]) :: (.int .u8 p) :: (.int .i64 n) :: (.pointer (some ⟨w.heap.size, 0, none⟩)) :: undef :: undef :: (.bool false) :: (.pointer (some ⟨kA, 0, none⟩)) :: undef :: undef :: undef :: undef :: undef :: undef :: (.agg #[.bool m.f0, .bool m.f1, .bool m.f2, .bool m.f3, .bool m.f4, .bool m.f5, .bool m.f6, .bool m.f7, .int .u8 m.s0, .int .u8 m.s1, .int .i64 m.sh]) :: (.int .u8 p) :: (.int .i64 n) :: (.slice (some ⟨gP, 0, none⟩) 1 1) :: (.agg #[.bool x.f0, .bool x.f1, .bool x.f2, .bool x.f3, .bool x.f4, .bool x.f5, .bool x.f6, .bool x.f7, .int .u8 x.s0, .int .u8 x.s1, .int .i64 x.sh]) :: (.agg #[.bool m.f0, .bool m.f1, .bool m.f2, .bool m.f3, .bool m.f4, .bool m.f5, .bool m.f6, .bool m.f7, .int .u8 m.s0, .int .u8 m.s1, .int .i64 m.sh]) :: (.int .u8 p) :: (.int .i64 n) :: (.slice (some ⟨gQ, 0, none⟩) 1 1) :: undef :: undef :: undef :: undef :: undef :: undef :: undef :: undef :: undef :: undef :: undef :: undef :: undef :: undef :: undef :: undef :: undef :: undef :: undef :: undef :: undef :: undef :: undef :: undef :: undef :: undef :: undef :: undef :: undef :: undef :: undef :: undef :: undef :: undef :: undef :: undef :: undef :: undef :: undef :: undef :: undef :: undef :: undef :: undef :: undef :: undef :: undef :: undef :: undef :: undef :: undef :: undef :: undef :: undef :: undef :: undef :: undef :: undef :: undef :: undef :: undef :: undef :: undef :: undef :: undef :: undef :: undef :: undef :: undef :: undef :: undef :: undef :: undef :: undef :: undef :: undef :: undef :: undef :: undef :: undef :: undef :: undef :: undef :: undef :: undef :: undef :: undef :: undef :: undef :: undef :: undef :: undef :: undef :: undef :: []).toArray, defers := [] } W)) (Lib.hid ?_) (fun H3_4_8_10 => ?_)
  · intro gP gQ kA W hHeld zQ zA za
    have ZQ := Lib.hid zQ
    have ZA := Lib.hid zA
    have Za := Lib.hid za
    clear zQ zA za
    clear GA HD HKN HDIF HE HB1 HB2 HB HR
    refine wpAnyH_ready (rs := [9, 11]) (by kernel_rfl) (by simp) ?_
    refine AllReadyH.cons rfl (fun K hK => ?_) (AllReadyH.cons rfl (fun K hK => ?_) AllReadyH.nil)
    · go_simp
      (with_reducible refine (G2.out gQ _ ZQ.out).mono ?_)
      rintro e w' ⟨rfl, hb'⟩
      have hs' := HKEEP.out _ _ hHeld hb'
      refine hK.out _ _ hs' (fun hH2 => ?_)
      exact H3_4_8_9_10.out gP gQ kA _ hH2 (ZA.out.below hb') Za.out
    · go_simp
      have hb' := below_alloc W (.cells #[.bool false, .bool false, .bool false, .bool false, .bool false, .bool false, .bool false, .bool false, .int .u8 0, .int .u8 0, .int .i64 0] 24)
      have hs' := HKEEP.out _ _ hHeld hb'
      refine hK.out _ _ hs' (fun hH2 => ?_)
      exact H3_4_8_10_11.out gP gQ kA W.heap.size (W.alloc (.cells #[.bool false, .bool false, .bool false, .bool false, .bool false, .bool false, .bool false, .bool false, .int .u8 0, .int .u8 0, .int .i64 0] 24)) hH2 ((ZQ.out.below hb' (Nat.le_refl _)).more hb'.size) (ZA.out.below hb') Za.out (Md.laid W zero) (hHeld.2.2.2.2.2.2.2.2.2.2.2.out.1.size) (by have := ZA.out.lt; omega)
  refine wpAnyH_cut (C := fun ops Q S => Hid (∀ (gP gQ kB : Nat) (W : World), S W → Nums W W.heap.size (some ⟨gQ, 0, none⟩) 1 [n] → Md W kB zero → y0.heap.size ≤ kB → wpAnyH Tryd.prog .any ops Q S 4 #[true, true, true, true, true, true, true, true, true, false, false, true, false, false] { tmps := ((.agg #[.bool m.f0, .bool m.f1, .bool m.f2, .bool m.f3, .bool m.f4, .bool m.f5, .bool m.f6, .bool m.f7, .int .u8 m.s0, .int .u8 m.s1, .int .i64 m.sh]) :: (.int .u8 p) :: (.int .i64 n) :: (.pointer (some ⟨w.heap.size, 0, none⟩)) :: undef :: undef :: (.bool false) :: undef :: (.pointer (some ⟨kB, 0, none⟩)) :: undef :: undef :: undef :: undef :: undef :: (.agg #[.bool m.f0, .bool m.f1, .bool m.f2, .bool m.f3, .bool m.f4, .bool m.f5, .bool m.f6, .bool m.f7, .int .u8 m.s0, .int .u8 m.s1, .int .i64 m.sh]) :: (.int .u8 p) :: (.int .i64 n) :: (.slice (some ⟨gP, 0, none⟩) 1 1) :: (.agg #[.bool x.f0, .bool x.f1, .bool x.f2, .bool x.f3, .bool x.f4, .bool x.f5, .bool x.f6, .bool x.f7, .int .u8 x.s0, .int .u8 x.s1, .int .i64 x.sh]) :: (.agg #[.bool m.f0, .bool m.f1, .bool m.f2, .bool m.f3, .bool m.f4, .bool m.f5, .bool m.f6, .bool m.f7, .int .u8 m.s0, .int .u8 m.s1, .int .i64 m.sh]) :: (.int .u8 p) :: (.int .i64 n) :: (.slice (some ⟨gQ, 0, none⟩) 1 1) :: undef :: undef :: undef :: undef :: undef :: undef :: undef :: undef :: undef :: undef :: undef :: undef :: undef :: undef :: undef :: undef :: undef :: undef :: undef :: undef :: undef :: undef :: undef :: undef :: undef :: undef :: undef :: undef :: undef :: undef :: undef :: undef :: undef :: undef :: undef :: undef :: undef :: undef :: undef :: undef :: undef :: undef :: undef :: undef :: undef :: undef :: undef :: undef :: undef :: undef :: undef :: undef :: undef :: undef :: undef :: undef :: undef :: undef :: undef :: undef :: undef :: undef :: undef :: undef :: undef :: undef :: undef :: undef :: undef :: undef :: undef :: undef :: undef :: undef :: undef :: undef :: undef :: undef :: undef :: undef :: undef :: undef :: undef :: undef :: undef :: undef :: undef :: undef :: undef :: undef :: undef :: undef :: undef :: undef :: []).toArray, defers := [] } W)) (Lib.hid ?_) (fun H3_4_8_11 => ?_)
  · intro gP gQ kB W hHeld zQ zB zb
    have ZQ := Lib.hid zQ
    have ZB := Lib.hid zB
    have Zb := Lib.hid zb
    clear zQ zB zb
    clear GA HD HKN HDIF HE HB1 HB2 HB HR
    refine wpAnyH_ready (rs := [9, 10]) (by kernel_rfl) (by simp) ?_
    refine AllReadyH.cons rfl (fun K hK => ?_) (AllReadyH.cons rfl (fun K hK => ?_) AllReadyH.nil)
    · go_simp
      (with_reducible refine (G2.out gQ _ ZQ.out).mono ?_)
      rintro e w' ⟨rfl, hb'⟩
      have hs' := HKEEP.out _ _ hHeld hb'
      refine hK.out _ _ hs' (fun hH2 => ?_)
      exact H3_4_8_9_11.out gP gQ kB _ hH2 (ZB.out.below hb') Zb.out
    · go_simp
      have hb' := below_alloc W (.cells #[.bool false, .bool false, .bool false, .bool false, .bool false, .bool false, .bool false, .bool false, .int .u8 0, .int .u8 0, .int .i64 0] 24)
      have hs' := HKEEP.out _ _ hHeld hb'
      refine hK.out _ _ hs' (fun hH2 => ?_)
      exact H3_4_8_10_11.out gP gQ W.heap.size kB (W.alloc (.cells #[.bool false, .bool false, .bool false, .bool false, .bool false, .bool false, .bool false, .bool false, .int .u8 0, .int .u8 0, .int .i64 0] 24)) hH2 ((ZQ.out.below hb' (Nat.le_refl _)).more hb'.size) (Md.laid W zero) (hHeld.2.2.2.2.2.2.2.2.2.2.2.out.1.size) (ZB.out.below hb') Zb.out (by have := ZB.out.lt; omega)
  refine wpAnyH_cut (C := fun ops Q S => Hid (∀ (gP kA kB : Nat) (W : World), S W → Md W kA zero → y0.heap.size ≤ kA → Md W kB zero → y0.heap.size ≤ kB → kA ≠ kB → wpAnyH Tryd.prog .any ops Q S 4 #[true, true, true, true, true, true, true, true, false, false, true, true, false, false] { tmps := ((.agg #[.bool m.f0, .bool m.f1, .bool m.f2, .bool m.f3, .bool m.f4, .bool m.f5, .bool m.f6, .bool m.f7, .int .u8 m.s0, .int .u8 m.s1, .int .i64 m.sh]) :: (.int .u8 p) :: (.int .i64 n) :: (.pointer (some ⟨w.heap.size, 0, none⟩)) :: undef :: undef :: (.bool false) :: (.pointer (some ⟨kA, 0, none⟩)) :: (.pointer (some ⟨kB, 0, none⟩)) :: undef :: undef :: undef :: undef :: undef :: (.agg #[.bool m.f0, .bool m.f1, .bool m.f2, .bool m.f3, .bool m.f4, .bool m.f5, .bool m.f6, .bool m.f7, .int .u8 m.s0, .int .u8 m.s1, .int .i64 m.sh]) :: (.int .u8 p) :: (.int .i64 n) :: (.slice (some ⟨gP, 0, none⟩) 1 1) :: (.agg #[.bool x.f0, .bool x.f1, .bool x.f2, .bool x.f3, .bool x.f4, .bool x.f5, .bool x.f6, .bool x.f7, .int .u8 x.s0, .int .u8 x.s1, .int .i64 x.sh]) :: (.agg #[.bool m.f0, .bool m.f1, .bool m.f2, .bool m.f3, .bool m.f4, .bool m.f5, .bool m.f6, .bool m.f7, .int .u8 m.s0, .int .u8 m.s1, .int .i64 m.sh]) :: (.int .u8 p) :: (.int .i64 n) :: undef :: undef :: undef :: undef :: undef :: undef :: undef :: undef :: undef :: undef :: undef :: undef :: undef :: undef :: undef :: undef :: undef :: undef :: undef :: undef :: undef :: undef :: undef :: undef :: undef :: undef :: undef :: undef :: undef :: undef :: undef :: undef :: undef :: undef :: undef :: undef :: undef :: undef :: undef :: undef :: undef :: undef :: undef :: undef :: undef :: undef :: undef :: undef :: undef :: undef :: undef :: undef :: undef :: undef :: undef :: undef :: undef :: undef :: undef :: undef :: undef :: undef :: undef :: undef :: undef :: undef :: undef :: undef :: undef :: undef :: undef :: undef :: undef :: undef :: undef :: undef :: undef :: undef :: undef :: undef :: undef :: undef :: undef :: undef :: undef :: undef :: undef :: undef :: undef :: undef :: undef :: undef :: undef :: undef :: undef :: []).toArray, defers := [] } W)) (Lib.hid ?_) (fun H3_4_10_11 => ?_)
  · intro gP kA kB W hHeld zA za zB zb zn
    have ZA := Lib.hid zA
    have Za := Lib.hid za
    have ZB := Lib.hid zB
    have Zb := Lib.hid zb
    have Zn := Lib.hid zn
    clear zA za zB zb zn
    clear GA HD HKN HDIF HE HB1 HB2 HB HR
    refine wpAnyH_ready (rs := [8]) (by kernel_rfl) (by simp) ?_
    refine AllReadyH.cons rfl (fun K hK => ?_) AllReadyH.nil
    go_simp
    have hb' := below_alloc W (.cells #[.int .i64 n] 3)
    have hs' := HKEEP.out _ _ hHeld hb'
    refine hK.out _ _ hs' (fun hH2 => ?_)
    exact H3_4_8_10_11.out gP W.heap.size kA kB (W.alloc (.cells #[.int .i64 n] 3)) hH2 (Out.made W [n] (by simp)).nums.2 (ZA.out.below hb') Za.out (ZB.out.below hb') Zb.out Zn.out
  refine wpAnyH_cut (C := fun ops Q S => Hid (∀ (gP gQ kA kB : Nat) (W : World), S W → Nums W W.heap.size (some ⟨gP, 0, none⟩) 1 [n] → Nums W W.heap.size (some ⟨gQ, 0, none⟩) 1 [n] → Md W kA zero → y0.heap.size ≤ kA → Md W kB zero → y0.heap.size ≤ kB → kA ≠ kB → wpAnyH Tryd.prog .any ops Q S 4 #[true, true, true, true, false, true, true, true, true, false, true, true, false, false] { tmps := ((.agg #[.bool m.f0, .bool m.f1, .bool m.f2, .bool m.f3, .bool m.f4, .bool m.f5, .bool m.f6, .bool m.f7, .int .u8 m.s0, .int .u8 m.s1, .int .i64 m.sh]) :: (.int .u8 p) :: (.int .i64 n) :: (.pointer (some ⟨w.heap.size, 0, none⟩)) :: undef :: undef :: (.bool false) :: (.pointer (some ⟨kA, 0, none⟩)) :: (.pointer (some ⟨kB, 0, none⟩)) :: undef :: undef :: undef :: undef :: undef :: (.agg #[.bool m.f0, .bool m.f1, .bool m.f2, .bool m.f3, .bool m.f4, .bool m.f5, .bool m.f6, .bool m.f7, .int .u8 m.s0, .int .u8 m.s1, .int .i64 m.sh]) :: (.int .u8 p) :: (.int .i64 n) :: (.slice (some ⟨gP, 0, none⟩) 1 1) :: undef :: (.agg #[.bool m.f0, .bool m.f1, .bool m.f2, .bool m.f3, .bool m.f4, .bool m.f5, .bool m.f6, .bool m.f7, .int .u8 m.s0, .int .u8 m.s1, .int .i64 m.sh]) :: (.int .u8 p) :: (.int .i64 n) :: (.slice (some ⟨gQ, 0, none⟩) 1 1) :: undef :: undef :: undef :: undef :: undef :: undef :: undef :: undef :: undef :: undef :: undef :: undef :: undef :: undef :: undef :: undef :: undef :: undef :: undef :: undef :: undef :: undef :: undef :: undef :: undef :: undef :: undef :: undef :: undef :: undef :: undef :: undef :: undef :: undef :: undef :: undef :: undef :: undef :: undef :: undef :: undef :: undef :: undef :: undef :: undef :: undef :: undef :: undef :: undef :: undef :: undef :: undef :: undef :: undef :: undef :: undef :: undef :: undef :: undef :: undef :: undef :: undef :: undef :: undef :: undef :: undef :: undef :: undef :: undef :: undef :: undef :: undef :: undef :: undef :: undef :: undef :: undef :: undef :: undef :: undef :: undef :: undef :: undef :: undef :: undef :: undef :: undef :: undef :: undef :: undef :: undef :: undef :: undef :: undef :: []).toArray, defers := [] } W)) (Lib.hid ?_) (fun H3_8_10_11 => ?_)
  · intro gP gQ kA kB W hHeld zP zQ zA za zB zb zn
    have ZP := Lib.hid zP
    have ZQ := Lib.hid zQ
    have ZA := Lib.hid zA
    have Za := Lib.hid za
    have ZB := Lib.hid zB
    have Zb := Lib.hid zb
    have Zn := Lib.hid zn
    clear zP zQ zA za zB zb zn
    clear GA HD HKN HDIF HE HB1 HB2 HB HR
    refine wpAnyH_ready (rs := [4]) (by kernel_rfl) (by simp) ?_
    refine AllReadyH.cons rfl (fun K hK => ?_) AllReadyH.nil
    go_simp
    (with_reducible refine (G1.out gP _ ZP.out).mono ?_)
    rintro e w' ⟨rfl, hb'⟩
    have hs' := HKEEP.out _ _ hHeld hb'
    refine hK.out _ _ hs' (fun hH2 => ?_)
    exact H3_4_8_10_11.out gP gQ kA kB _ hH2 ((ZQ.out.below hb' (Nat.le_refl _)).more hb'.size) (ZA.out.below hb') Za.out (ZB.out.below hb') Zb.out Zn.out
  refine wpAnyH_cut (C := fun ops Q S => Hid (∀ (gP gQ : Nat) (W : World), S W → Nums W W.heap.size (some ⟨gQ, 0, none⟩) 1 [n] → wpAnyH Tryd.prog .any ops Q S 5 #[true, true, true, true, true, true, true, true, true, false, false, false, false, false] { tmps := ((.agg #[.bool m.f0, .bool m.f1, .bool m.f2, .bool m.f3, .bool m.f4, .bool m.f5, .bool m.f6, .bool m.f7, .int .u8 m.s0, .int .u8 m.s1, .int .i64 m.sh]) :: (.int .u8 p) :: (.int .i64 n) :: (.pointer (some ⟨w.heap.size, 0, none⟩)) :: undef :: undef :: (.bool false) :: undef :: undef :: undef :: undef :: undef :: undef :: undef :: (.agg #[.bool m.f0, .bool m.f1, .bool m.f2, .bool m.f3, .bool m.f4, .bool m.f5, .bool m.f6, .bool m.f7, .int .u8 m.s0, .int .u8 m.s1, .int .i64 m.sh]) :: (.int .u8 p) :: (.int .i64 n) :: (.slice (some ⟨gP, 0, none⟩) 1 1) :: (.agg #[.bool x.f0, .bool x.f1, .bool x.f2, .bool x.f3, .bool x.f4, .bool x.f5, .bool x.f6, .bool x.f7, .int .u8 x.s0, .int .u8 x.s1, .int .i64 x.sh]) :: (.agg #[.bool m.f0, .bool m.f1, .bool m.f2, .bool m.f3, .bool m.f4, .bool m.f5, .bool m.f6, .bool m.f7, .int .u8 m.s0, .int .u8 m.s1, .int .i64 m.sh]) :: (.int .u8 p) :: (.int .i64 n) :: (.slice (some ⟨gQ, 0, none⟩) 1 1) :: undef :: undef :: undef :: undef :: undef :: undef :: undef :: undef :: undef :: undef :: undef :: undef :: undef :: undef :: undef :: undef :: undef :: undef :: undef :: undef :: undef :: undef :: undef :: undef :: undef :: undef :: undef :: undef :: undef :: undef :: undef :: undef :: undef :: undef :: undef :: undef :: undef :: undef :: undef :: undef :: undef :: undef :: undef :: undef :: undef :: undef :: undef :: undef :: undef :: undef :: undef :: undef :: undef :: undef :: undef :: undef :: undef :: undef :: undef :: undef :: undef :: undef :: undef :: undef :: undef :: undef :: undef :: undef :: undef :: undef :: undef :: undef :: undef :: undef :: undef :: undef :: undef :: undef :: undef :: undef :: undef :: undef :: undef :: undef :: undef :: undef :: undef :: undef :: undef :: undef :: undef :: undef :: undef :: undef :: []).toArray, defers := [] } W)) (Lib.hid ?_) (fun H3_4_8 => ?_)
  · intro gP gQ W hHeld zQ
    have ZQ := Lib.hid zQ
    clear zQ
    clear GA HD HKN HDIF HE HB1 HB2 HB HR
    refine wpAnyH_ready (rs := [9, 10, 11]) (by kernel_rfl) (by simp) ?_
    refine AllReadyH.cons rfl (fun K hK => ?_) (AllReadyH.cons rfl (fun K hK => ?_) (AllReadyH.cons rfl (fun K hK => ?_) AllReadyH.nil))
    · go_simp
      (with_reducible refine (G2.out gQ _ ZQ.out).mono ?_)
      rintro e w' ⟨rfl, hb'⟩
      have hs' := HKEEP.out _ _ hHeld hb'
      refine hK.out _ _ hs' (fun hH2 => ?_)
      exact H3_4_8_9.out gP gQ _ hH2 
    · go_simp
      have hb' := below_alloc W (.cells #[.bool false, .bool false, .bool false, .bool false, .bool false, .bool false, .bool false, .bool false, .int .u8 0, .int .u8 0, .int .i64 0] 24)
      have hs' := HKEEP.out _ _ hHeld hb'
      refine hK.out _ _ hs' (fun hH2 => ?_)
      exact H3_4_8_10.out gP gQ W.heap.size (W.alloc (.cells #[.bool false, .bool false, .bool false, .bool false, .bool false, .bool false, .bool false, .bool false, .int .u8 0, .int .u8 0, .int .i64 0] 24)) hH2 ((ZQ.out.below hb' (Nat.le_refl _)).more hb'.size) (Md.laid W zero) (hHeld.2.2.2.2.2.2.2.2.2.2.2.out.1.size)
    · go_simp
      have hb' := below_alloc W (.cells #[.bool false, .bool false, .bool false, .bool false, .bool false, .bool false, .bool false, .bool false, .int .u8 0, .int .u8 0, .int .i64 0] 24)
      have hs' := HKEEP.out _ _ hHeld hb'
      refine hK.out _ _ hs' (fun hH2 => ?_)
      exact H3_4_8_11.out gP gQ W.heap.size (W.alloc (.cells #[.bool false, .bool false, .bool false, .bool false, .bool false, .bool false, .bool false, .bool false, .int .u8 0, .int .u8 0, .int .i64 0] 24)) hH2 ((ZQ.out.below hb' (Nat.le_refl _)).more hb'.size) (Md.laid W zero) (hHeld.2.2.2.2.2.2.2.2.2.2.2.out.1.size)
  refine wpAnyH_cut (C := fun ops Q S => Hid (∀ (gP kA : Nat) (W : World), S W → Md W kA zero → y0.heap.size ≤ kA → wpAnyH Tryd.prog .any ops Q S 5 #[true, true, true, true, true, true, true, true, false, false, true, false, false, false] { tmps := ((.agg #[.bool m.f0, .bool m.f1, .bool m.f2, .bool m.f3, .bool m.f4, .bool m.f5, .bool m.f6, .bool m.f7, .int .u8 m.s0, .int .u8 m.s1, .int .i64 m.sh]) :: (.int .u8 p) :: (.int .i64 n) :: (.pointer (some ⟨w.heap.size, 0, none⟩)) :: undef :: undef :: (.bool false) :: (.pointer (some ⟨kA, 0, none⟩)) :: undef :: undef :: undef :: undef :: undef :: undef :: (.agg #[.bool m.f0, .bool m.f1, .bool m.f2, .bool m.f3, .bool m.f4, .bool m.f5, .bool m.f6, .bool m.f7, .int .u8 m.s0, .int .u8 m.s1, .int .i64 m.sh]) :: (.int .u8 p) :: (.int .i64 n) :: (.slice (some ⟨gP, 0, none⟩) 1 1) :: (.agg #[.bool x.f0, .bool x.f1, .bool x.f2, .bool x.f3, .bool x.f4, .bool x.f5, .bool x.f6, .bool x.f7, .int .u8 x.s0, .int .u8 x.s1, .int .i64 x.sh]) :: (.agg #[.bool m.f0, .bool m.f1, .bool m.f2, .bool m.f3, .bool m.f4, .bool m.f5, .bool m.f6, .bool m.f7, .int .u8 m.s0, .int .u8 m.s1, .int .i64 m.sh]) :: (.int .u8 p) :: (.int .i64 n) :: undef :: undef :: undef :: undef :: undef :: undef :: undef :: undef :: undef :: undef :: undef :: undef :: undef :: undef :: undef :: undef :: undef :: undef :: undef :: undef :: undef :: undef :: undef :: undef :: undef :: undef :: undef :: undef :: undef :: undef :: undef :: undef :: undef :: undef :: undef :: undef :: undef :: undef :: undef :: undef :: undef :: undef :: undef :: undef :: undef :: undef :: undef :: undef :: undef :: undef :: undef :: undef :: undef :: undef :: undef :: undef :: undef :: undef :: undef :: undef :: undef :: undef :: undef :: undef :: undef :: undef :: undef :: undef :: undef :: undef :: undef :: undef :: undef :: undef :: undef :: undef :: undef :: undef :: undef :: undef :: undef :: undef :: undef :: undef :: undef :: undef :: undef :: undef :: undef :: undef :: undef :: undef :: undef :: undef :: undef :: []).toArray, defers := [] } W)) (Lib.hid ?_) (fun H3_4_10 => ?_)
  · intro gP kA W hHeld zA za
    have ZA := Lib.hid zA
    have Za := Lib.hid za
    clear zA za
    clear GA HD HKN HDIF HE HB1 HB2 HB HR
    refine wpAnyH_ready (rs := [8, 11]) (by kernel_rfl) (by simp) ?_
    refine AllReadyH.cons rfl (fun K hK => ?_) (AllReadyH.cons rfl (fun K hK => ?_) AllReadyH.nil)
    · go_simp
      have hb' := below_alloc W (.cells #[.int .i64 n] 3)
      have hs' := HKEEP.out _ _ hHeld hb'
      refine hK.out _ _ hs' (fun hH2 => ?_)
      exact H3_4_8_10.out gP W.heap.size kA (W.alloc (.cells #[.int .i64 n] 3)) hH2 (Out.made W [n] (by simp)).nums.2 (ZA.out.below hb') Za.out
    · go_simp
      have hb' := below_alloc W (.cells #[.bool false, .bool false, .bool false, .bool false, .bool false, .bool false, .bool false, .bool false, .int .u8 0, .int .u8 0, .int .i64 0] 24)
      have hs' := HKEEP.out _ _ hHeld hb'
      refine hK.out _ _ hs' (fun hH2 => ?_)
      exact H3_4_10_11.out gP kA W.heap.size (W.alloc (.cells #[.bool false, .bool false, .bool false, .bool false, .bool false, .bool false, .bool false, .bool false, .int .u8 0, .int .u8 0, .int .i64 0] 24)) hH2 (ZA.out.below hb') Za.out (Md.laid W zero) (hHeld.2.2.2.2.2.2.2.2.2.2.2.out.1.size) (by have := ZA.out.lt; omega)
  refine wpAnyH_cut (C := fun ops Q S => Hid (∀ (gP kB : Nat) (W : World), S W → Md W kB zero → y0.heap.size ≤ kB → wpAnyH Tryd.prog .any ops Q S 5 #[true, true, true, true, true, true, true, true, false, false, false, true, false, false] { tmps := ((.agg #[.bool m.f0, .bool m.f1, .bool m.f2, .bool m.f3, .bool m.f4, .bool m.f5, .bool m.f6, .bool m.f7, .int .u8 m.s0, .int .u8 m.s1, .int .i64 m.sh]) :: (.int .u8 p) :: (.int .i64 n) :: (.pointer (some ⟨w.heap.size, 0, none⟩)) :: undef :: undef :: (.bool false) :: undef :: (.pointer (some ⟨kB, 0, none⟩)) :: undef :: undef :: undef :: undef :: undef :: (.agg #[.bool m.f0, .bool m.f1, .bool m.f2, .bool m.f3, .bool m.f4, .bool m.f5, .bool m.f6, .bool m.f7, .int .u8 m.s0, .int .u8 m.s1, .int .i64 m.sh]) :: (.int .u8 p) :: (.int .i64 n) :: (.slice (some ⟨gP, 0, none⟩) 1 1) :: (.agg #[.bool x.f0, .bool x.f1, .bool x.f2, .bool x.f3, .bool x.f4, .bool x.f5, .bool x.f6, .bool x.f7, .int .u8 x.s0, .int .u8 x.s1, .int .i64 x.sh]) :: (.agg #[.bool m.f0, .bool m.f1, .bool m.f2, .bool m.f3, .bool m.f4, .bool m.f5, .bool m.f6, .bool m.f7, .int .u8 m.s0, .int .u8 m.s1, .int .i64 m.sh]) :: (.int .u8 p) :: (.int .i64 n) :: undef :: undef :: undef :: undef :: undef :: undef :: undef :: undef :: undef :: undef :: undef :: undef :: undef :: undef :: undef :: undef :: undef :: undef :: undef :: undef :: undef :: undef :: undef :: undef :: undef :: undef :: undef :: undef :: undef :: undef :: undef :: undef :: undef :: undef :: undef :: undef :: undef :: undef :: undef :: undef :: undef :: undef :: undef :: undef :: undef :: undef :: undef :: undef :: undef :: undef :: undef :: undef :: undef :: undef :: undef :: undef :: undef :: undef :: undef :: undef :: undef :: undef :: undef :: undef :: undef :: undef :: undef :: undef :: undef :: undef :: undef :: undef :: undef :: undef :: undef :: undef :: undef :: undef :: undef :: undef :: undef :: undef :: undef :: undef :: undef :: undef :: undef :: undef :: undef :: undef :: undef :: undef :: undef :: undef :: undef :: []).toArray, defers := [] } W)) (Lib.hid ?_) (fun H3_4_11 => ?_)
  · intro gP kB W hHeld zB zb
    have ZB := Lib.hid zB
    have Zb := Lib.hid zb
    clear zB zb
    clear GA HD HKN HDIF HE HB1 HB2 HB HR
    refine wpAnyH_ready (rs := [8, 10]) (by kernel_rfl) (by simp) ?_
    refine AllReadyH.cons rfl (fun K hK => ?_) (AllReadyH.cons rfl (fun K hK => ?_) AllReadyH.nil)
    · go_simp
      have hb' := below_alloc W (.cells #[.int .i64 n] 3)
      have hs' := HKEEP.out _ _ hHeld hb'
      refine hK.out _ _ hs' (fun hH2 => ?_)
      exact H3_4_8_11.out gP W.heap.size kB (W.alloc (.cells #[.int .i64 n] 3)) hH2 (Out.made W [n] (by simp)).nums.2 (ZB.out.below hb') Zb.out
    · go_simp
      have hb' := below_alloc W (.cells #[.bool false, .bool false, .bool false, .bool false, .bool false, .bool false, .bool false, .bool false, .int .u8 0, .int .u8 0, .int .i64 0] 24)
      have hs' := HKEEP.out _ _ hHeld hb'
      refine hK.out _ _ hs' (fun hH2 => ?_)
      exact H3_4_10_11.out gP W.heap.size kB (W.alloc (.cells #[.bool false, .bool false, .bool false, .bool false, .bool false, .bool false, .bool false, .bool false, .int .u8 0, .int .u8 0, .int .i64 0] 24)) hH2 (Md.laid W zero) (hHeld.2.2.2.2.2.2.2.2.2.2.2.out.1.size) (ZB.out.below hb') Zb.out (by have := ZB.out.lt; omega)
  refine wpAnyH_cut (C := fun ops Q S => Hid (∀ (gP gQ kA : Nat) (W : World), S W → Nums W W.heap.size (some ⟨gP, 0, none⟩) 1 [n] → Nums W W.heap.size (some ⟨gQ, 0, none⟩) 1 [n] → Md W kA zero → y0.heap.size ≤ kA → wpAnyH Tryd.prog .any ops Q S 5 #[true, true, true, true, false, true, true, true, true, false, true, false, false, false] { tmps := ((.agg #[.bool m.f0, .bool m.f1, .bool m.f2, .bool m.f3, .bool m.f4, .bool m.f5, .bool m.f6, .bool m.f7, .int .u8 m.s0, .int .u8 m.s1, .int .i64 m.sh]) :: (.int .u8 p) :: (.int .i64 n) :: (.pointer (some ⟨w.heap.size, 0, none⟩)) :: undef :: undef :: (.bool false) :: (.pointer (some ⟨kA, 0, none⟩)) :: undef :: undef :: undef :: undef :: undef :: undef :: (.agg #[.bool m.f0, .bool m.f1, .bool m.f2, .bool m.f3, .bool m.f4, .bool m.f5, .bool m.f6, .bool m.f7, .int .u8 m.s0, .int .u8 m.s1, .int .i64 m.sh]) :: (.int .u8 p) :: (.int .i64 n) :: (.slice (some ⟨gP, 0, none⟩) 1 1) :: undef :: (.agg #[.bool m.f0, .bool m.f1, .bool m.f2, .bool m.f3, .bool m.f4, .bool m.f5, .bool m.f6, .bool m.f7, .int .u8 m.s0, .int .u8 m.s1, .int .i64 m.sh]) :: (.int .u8 p) :: (.int .i64 n) :: (.slice (some ⟨gQ, 0, none⟩) 1 1) :: undef :: undef :: undef :: undef :: undef :: undef :: undef :: undef :: undef :: undef :: undef :: undef :: undef :: undef :: undef :: undef :: undef :: undef :: undef :: undef :: undef :: undef :: undef :: undef :: undef :: undef :: undef :: undef :: undef :: undef :: undef :: undef :: undef :: undef :: undef :: undef :: undef :: undef :: undef :: undef :: undef :: undef :: undef :: undef :: undef :: undef :: undef :: undef :: undef :: undef :: undef :: undef :: undef :: undef :: undef :: undef :: undef :: undef :: undef :: undef :: undef :: undef :: undef :: undef :: undef :: undef :: undef :: undef :: undef :: undef :: undef :: undef :: undef :: undef :: undef :: undef :: undef :: undef :: undef :: undef :: undef :: undef :: undef :: undef :: undef :: undef :: undef :: undef :: undef :: undef :: undef :: undef :: undef :: undef :: []).toArray, defers := [] } W)) (Lib.hid ?_) (fun H3_8_10 => ?_)
  · intro gP gQ kA W hHeld zP zQ zA za
    have ZP := Lib.hid zP
    have ZQ := Lib.hid zQ
    have ZA := Lib.hid zA
    have Za := Lib.hid za
    clear zP zQ zA za
    clear GA HD HKN HDIF HE HB1 HB2 HB HR
    refine wpAnyH_ready (rs := [4, 11]) (by kernel_rfl) (by simp) ?_
    refine AllReadyH.cons rfl (fun K hK => ?_) (AllReadyH.cons rfl (fun K hK => ?_) AllReadyH.nil)
    · go_simp
      (with_reducible refine (G1.out gP _ ZP.out).mono ?_)
      rintro e w' ⟨rfl, hb'⟩
      have hs' := HKEEP.out _ _ hHeld hb'
      refine hK.out _ _ hs' (fun hH2 => ?_)
      exact H3_4_8_10.out gP gQ kA _ hH2 ((ZQ.out.below hb' (Nat.le_refl _)).more hb'.size) (ZA.out.below hb') Za.out
    · go_simp
      have hb' := below_alloc W (.cells #[.bool false, .bool false, .bool false, .bool false, .bool false, .bool false, .bool false, .bool false, .int .u8 0, .int .u8 0, .int .i64 0] 24)
      have hs' := HKEEP.out _ _ hHeld hb'
      refine hK.out _ _ hs' (fun hH2 => ?_)
      exact H3_8_10_11.out gP gQ kA W.heap.size (W.alloc (.cells #[.bool false, .bool false, .bool false, .bool false, .bool false, .bool false, .bool false, .bool false, .int .u8 0, .int .u8 0, .int .i64 0] 24)) hH2 ((ZP.out.below hb' (Nat.le_refl _)).more hb'.size) ((ZQ.out.below hb' (Nat.le_refl _)).more hb'.size) (ZA.out.below hb') Za.out (Md.laid W zero) (hHeld.2.2.2.2.2.2.2.2.2.2.2.out.1.size) (by have := ZA.out.lt; omega)
  refine wpAnyH_cut (C := fun ops Q S => Hid (∀ (gP gQ kB : Nat) (W : World), S W → Nums W W.heap.size (some ⟨gP, 0, none⟩) 1 [n] → Nums W W.heap.size (some ⟨gQ, 0, none⟩) 1 [n] → Md W kB zero → y0.heap.size ≤ kB → wpAnyH Tryd.prog .any ops Q S 5 #[true, true, true, true, false, true, true, true, true, false, false, true, false, false] { tmps := ((.agg #[.bool m.f0, .bool m.f1, .bool m.f2, .bool m.f3, .bool m.f4, .bool m.f5, .bool m.f6, .bool m.f7, .int .u8 m.s0, .int .u8 m.s1, .int .i64 m.sh]) :: (.int .u8 p) :: (.int .i64 n) :: (.pointer (some ⟨w.heap.size, 0, none⟩)) :: undef :: undef :: (.bool false) :: undef :: (.pointer (some ⟨kB, 0, none⟩)) :: undef :: undef :: undef :: undef :: undef :: (.agg #[.bool m.f0, .bool m.f1, .bool m.f2, .bool m.f3, .bool m.f4, .bool m.f5, .bool m.f6, .bool m.f7, .int .u8 m.s0, .int .u8 m.s1, .int .i64 m.sh]) :: (.int .u8 p) :: (.int .i64 n) :: (.slice (some ⟨gP, 0, none⟩) 1 1) :: undef :: (.agg #[.bool m.f0, .bool m.f1, .bool m.f2, .bool m.f3, .bool m.f4, .bool m.f5, .bool m.f6, .bool m.f7, .int .u8 m.s0, .int .u8 m.s1, .int .i64 m.sh]) :: (.int .u8 p) :: (.int .i64 n) :: (.slice (some ⟨gQ, 0, none⟩) 1 1) :: undef :: undef :: undef :: undef :: undef :: undef :: undef :: undef :: undef :: undef :: undef :: undef :: undef :: undef :: undef :: undef :: undef :: undef :: undef :: undef :: undef :: undef :: undef :: undef :: undef :: undef :: undef :: undef :: undef :: undef :: undef :: undef :: undef :: undef :: undef :: undef :: undef :: undef :: undef :: undef :: undef :: undef :: undef :: undef :: undef :: undef :: undef :: undef :: undef :: undef :: undef :: undef :: undef :: undef :: undef :: undef :: undef :: undef :: undef :: undef :: undef :: undef :: undef :: undef :: undef :: undef :: undef :: undef :: undef :: undef :: undef :: undef :: undef :: undef :: undef :: undef :: undef :: undef :: undef :: undef :: undef :: undef :: undef :: undef :: undef :: undef :: undef :: undef :: undef :: undef :: undef :: undef :: undef :: undef :: []).toArray, defers := [] } W)) (Lib.hid ?_) (fun H3_8_11 => ?_)
  · intro gP gQ kB W hHeld zP zQ zB zb
    have ZP := Lib.hid zP
    have ZQ := Lib.hid zQ
    have ZB := Lib.hid zB
    have Zb := Lib.hid zb
    clear zP zQ zB zb
    clear GA HD HKN HDIF HE HB1 HB2 HB HR
    refine wpAnyH_ready (rs := [4, 10]) (by kernel_rfl) (by simp) ?_
    refine AllReadyH.cons rfl (fun K hK => ?_) (AllReadyH.cons rfl (fun K hK => ?_) AllReadyH.nil)
    · go_simp
      (with_reducible refine (G1.out gP _ ZP.out).mono ?_)
      rintro e w' ⟨rfl, hb'⟩
      have hs' := HKEEP.out _ _ hHeld hb'
      refine hK.out _ _ hs' (fun hH2 => ?_)
      exact H3_4_8_11.out gP gQ kB _ hH2 ((ZQ.out.below hb' (Nat.le_refl _)).more hb'.size) (ZB.out.below hb') Zb.out
    · go_simp
      have hb' := below_alloc W (.cells #[.bool false, .bool false, .bool false, .bool false, .bool false, .bool false, .bool false, .bool false, .int .u8 0, .int .u8 0, .int .i64 0] 24)
      have hs' := HKEEP.out _ _ hHeld hb'
      refine hK.out _ _ hs' (fun hH2 => ?_)
      exact H3_8_10_11.out gP gQ W.heap.size kB (W.alloc (.cells #[.bool false, .bool false, .bool false, .bool false, .bool false, .bool false, .bool false, .bool false, .int .u8 0, .int .u8 0, .int .i64 0] 24)) hH2 ((ZP.out.below hb' (Nat.le_refl _)).more hb'.size) ((ZQ.out.below hb' (Nat.le_refl _)).more hb'.size) (Md.laid W zero) (hHeld.2.2.2.2.2.2.2.2.2.2.2.out.1.size) (ZB.out.below hb') Zb.out (by have := ZB.out.lt; omega)
  refine wpAnyH_cut (C := fun ops Q S => Hid (∀ (gP kA kB : Nat) (W : World), S W → Nums W W.heap.size (some ⟨gP, 0, none⟩) 1 [n] → Md W kA zero → y0.heap.size ≤ kA → Md W kB zero → y0.heap.size ≤ kB → kA ≠ kB → wpAnyH Tryd.prog .any ops Q S 5 #[true, true, true, true, false, true, true, true, false, false, true, true, false, false] { tmps := ((.agg #[.bool m.f0, .bool m.f1, .bool m.f2, .bool m.f3, .bool m.f4, .bool m.f5, .bool m.f6, .bool m.f7, .int .u8 m.s0, .int .u8 m.s1, .int .i64 m.sh]) :: (.int .u8 p) :: (.int .i64 n) :: (.pointer (some ⟨w.heap.size, 0, none⟩)) :: undef :: undef :: (.bool false) :: (.pointer (some ⟨kA, 0, none⟩)) :: (.pointer (some ⟨kB, 0, none⟩)) :: undef :: undef :: undef :: undef :: undef :: (.agg #[.bool m.f0, .bool m.f1, .bool m.f2, .bool m.f3, .bool m.f4, .bool m.f5, .bool m.f6, .bool m.f7, .int .u8 m.s0, .int .u8 m.s1, .int .i64 m.sh]) :: (.int .u8 p) :: (.int .i64 n) :: (.slice (some ⟨gP, 0, none⟩) 1 1) :: undef :: (.agg #[.bool m.f0, .bool m.f1, .bool m.f2, .bool m.f3, .bool m.f4, .bool m.f5, .bool m.f6, .bool m.f7, .int .u8 m.s0, .int .u8 m.s1, .int .i64 m.sh]) :: (.int .u8 p) :: (.int .i64 n) :: undef :: undef :: undef :: undef :: undef :: undef :: undef :: undef :: undef :: undef :: undef :: undef :: undef :: undef :: undef :: undef :: undef :: undef :: undef :: undef :: undef :: undef :: undef :: undef :: undef :: undef :: undef :: undef :: undef :: undef :: undef :: undef :: undef :: undef :: undef :: undef :: undef :: undef :: undef :: undef :: undef :: undef :: undef :: undef :: undef :: undef :: undef :: undef :: undef :: undef :: undef :: undef :: undef :: undef :: undef :: undef :: undef :: undef :: undef :: undef :: undef :: undef :: undef :: undef :: undef :: undef :: undef :: undef :: undef :: undef :: undef :: undef :: undef :: undef :: undef :: undef :: undef :: undef :: undef :: undef :: undef :: undef :: undef :: undef :: undef :: undef :: undef :: undef :: undef :: undef :: undef :: undef :: undef :: undef :: undef :: []).toArray, defers := [] } W)) (Lib.hid ?_) (fun H3_10_11 => ?_)
  · intro gP kA kB W hHeld zP zA za zB zb zn
    have ZP := Lib.hid zP
    have ZA := Lib.hid zA
    have Za := Lib.hid za
    have ZB := Lib.hid zB
    have Zb := Lib.hid zb
    have Zn := Lib.hid zn
    clear zP zA za zB zb zn
    clear GA HD HKN HDIF HE HB1 HB2 HB HR
    refine wpAnyH_ready (rs := [4, 8]) (by kernel_rfl) (by simp) ?_
    refine AllReadyH.cons rfl (fun K hK => ?_) (AllReadyH.cons rfl (fun K hK => ?_) AllReadyH.nil)
    · go_simp
      (with_reducible refine (G1.out gP _ ZP.out).mono ?_)
      rintro e w' ⟨rfl, hb'⟩
      have hs' := HKEEP.out _ _ hHeld hb'
      refine hK.out _ _ hs' (fun hH2 => ?_)
      exact H3_4_10_11.out gP kA kB _ hH2 (ZA.out.below hb') Za.out (ZB.out.below hb') Zb.out Zn.out
    · go_simp
      have hb' := below_alloc W (.cells #[.int .i64 n] 3)
      have hs' := HKEEP.out _ _ hHeld hb'
      refine hK.out _ _ hs' (fun hH2 => ?_)
      exact H3_8_10_11.out gP W.heap.size kA kB (W.alloc (.cells #[.int .i64 n] 3)) hH2 ((ZP.out.below hb' (Nat.le_refl _)).more hb'.size) (Out.made W [n] (by simp)).nums.2 (ZA.out.below hb') Za.out (ZB.out.below hb') Zb.out Zn.out
  refine wpAnyH_cut (C := fun ops Q S => Hid (∀ (gQ kA kB : Nat) (W : World), S W → Nums W W.heap.size (some ⟨gQ, 0, none⟩) 1 [n] → Md W kA zero → y0.heap.size ≤ kA → Md W kB zero → y0.heap.size ≤ kB → kA ≠ kB → wpAnyH Tryd.prog .any ops Q S 5 #[true, true, true, false, false, true, true, true, true, false, true, true, false, false] { tmps := ((.agg #[.bool m.f0, .bool m.f1, .bool m.f2, .bool m.f3, .bool m.f4, .bool m.f5, .bool m.f6, .bool m.f7, .int .u8 m.s0, .int .u8 m.s1, .int .i64 m.sh]) :: (.int .u8 p) :: (.int .i64 n) :: (.pointer (some ⟨w.heap.size, 0, none⟩)) :: undef :: undef :: (.bool false) :: (.pointer (some ⟨kA, 0, none⟩)) :: (.pointer (some ⟨kB, 0, none⟩)) :: undef :: undef :: undef :: undef :: undef :: (.agg #[.bool m.f0, .bool m.f1, .bool m.f2, .bool m.f3, .bool m.f4, .bool m.f5, .bool m.f6, .bool m.f7, .int .u8 m.s0, .int .u8 m.s1, .int .i64 m.sh]) :: (.int .u8 p) :: (.int .i64 n) :: undef :: undef :: (.agg #[.bool m.f0, .bool m.f1, .bool m.f2, .bool m.f3, .bool m.f4, .bool m.f5, .bool m.f6, .bool m.f7, .int .u8 m.s0, .int .u8 m.s1, .int .i64 m.sh]) :: (.int .u8 p) :: (.int .i64 n) :: (.slice (some ⟨gQ, 0, none⟩) 1 1) :: undef :: undef :: undef :: undef :: undef :: undef :: undef :: undef :: undef :: undef :: undef :: undef :: undef :: undef :: undef :: undef :: undef :: undef :: undef :: undef :: undef :: undef :: undef :: undef :: undef :: undef :: undef :: undef :: undef :: undef :: undef :: undef :: undef :: undef :: undef :: undef :: undef :: undef :: undef :: undef :: undef :: undef :: undef :: undef :: undef :: undef :: undef :: undef :: undef :: undef :: undef :: undef :: undef :: undef :: undef :: undef :: undef :: undef :: undef :: undef :: undef :: undef :: undef :: undef :: undef :: undef :: undef :: undef :: undef :: undef :: undef :: undef :: undef :: undef :: undef :: undef :: undef :: undef :: undef :: undef :: undef :: undef :: undef :: undef :: undef :: undef :: undef :: undef :: undef :: undef :: undef :: undef :: undef :: undef :: []).toArray, defers := [] } W)) (Lib.hid ?_) (fun H8_10_11 => ?_)
  · intro gQ kA kB W hHeld zQ zA za zB zb zn
    have ZQ := Lib.hid zQ
    have ZA := Lib.hid zA
    have Za := Lib.hid za
    have ZB := Lib.hid zB
    have Zb := Lib.hid zb
    have Zn := Lib.hid zn
    clear zQ zA za zB zb zn
    clear GA HD HKN HDIF HE HB1 HB2 HB HR
    refine wpAnyH_ready (rs := [3]) (by kernel_rfl) (by simp) ?_
    refine AllReadyH.cons rfl (fun K hK => ?_) AllReadyH.nil
    go_simp
    have hb' := below_alloc W (.cells #[.int .i64 n] 3)
    have hs' := HKEEP.out _ _ hHeld hb'
    refine hK.out _ _ hs' (fun hH2 => ?_)
    exact H3_8_10_11.out W.heap.size gQ kA kB (W.alloc (.cells #[.int .i64 n] 3)) hH2 (Out.made W [n] (by simp)).nums.2 ((ZQ.out.below hb' (Nat.le_refl _)).more hb'.size) (ZA.out.below hb') Za.out (ZB.out.below hb') Zb.out Zn.out
  refine wpAnyH_cut (C := fun ops Q S => Hid (∀ (gP : Nat) (W : World), S W → wpAnyH Tryd.prog .any ops Q S 6 #[true, true, true, true, true, true, true, true, false, false, false, false, false, false] { tmps := ((.agg #[.bool m.f0, .bool m.f1, .bool m.f2, .bool m.f3, .bool m.f4, .bool m.f5, .bool m.f6, .bool m.f7, .int .u8 m.s0, .int .u8 m.s1, .int .i64 m.sh]) :: (.int .u8 p) :: (.int .i64 n) :: (.pointer (some ⟨w.heap.size, 0, none⟩)) :: undef :: undef :: (.bool false) :: undef :: undef :: undef :: undef :: undef :: undef :: undef :: (.agg #[.bool m.f0, .bool m.f1, .bool m.f2, .bool m.f3, .bool m.f4, .bool m.f5, .bool m.f6, .bool m.f7, .int .u8 m.s0, .int .u8 m.s1, .int .i64 m.sh]) :: (.int .u8 p) :: (.int .i64 n) :: (.slice (some ⟨gP, 0, none⟩) 1 1) :: (.agg #[.bool x.f0, .bool x.f1, .bool x.f2, .bool x.f3, .bool x.f4, .bool x.f5, .bool x.f6, .bool x.f7, .int .u8 x.s0, .int .u8 x.s1, .int .i64 x.sh]) :: (.agg #[.bool m.f0, .bool m.f1, .bool m.f2, .bool m.f3, .bool m.f4, .bool m.f5, .bool m.f6, .bool m.f7, .int .u8 m.s0, .int .u8 m.s1, .int .i64 m.sh]) :: (.int .u8 p) :: (.int .i64 n) :: undef :: undef :: undef :: undef :: undef :: undef :: undef :: undef :: undef :: undef :: undef :: undef :: undef :: undef :: undef :: undef :: undef :: undef :: undef :: undef :: undef :: undef :: undef :: undef :: undef :: undef :: undef :: undef :: undef :: undef :: undef :: undef :: undef :: undef :: undef :: undef :: undef :: undef :: undef :: undef :: undef :: undef :: undef :: undef :: undef :: undef :: undef :: undef :: undef :: undef :: undef :: undef :: undef :: undef :: undef :: undef :: undef :: undef :: undef :: undef :: undef :: undef :: undef :: undef :: undef :: undef :: undef :: undef :: undef :: undef :: undef :: undef :: undef :: undef :: undef :: undef :: undef :: undef :: undef :: undef :: undef :: undef :: undef :: undef :: undef :: undef :: undef :: undef :: undef :: undef :: undef :: undef :: undef :: undef :: undef :: []).toArray, defers := [] } W)) (Lib.hid ?_) (fun H3_4 => ?_)
  · intro gP W hHeld
    clear GA HD HKN HDIF HE HB1 HB2 HB HR
    refine wpAnyH_ready (rs := [8, 10, 11]) (by kernel_rfl) (by simp) ?_
    refine AllReadyH.cons rfl (fun K hK => ?_) (AllReadyH.cons rfl (fun K hK => ?_) (AllReadyH.cons rfl (fun K hK => ?_) AllReadyH.nil))
    · go_simp
      have hb' := below_alloc W (.cells #[.int .i64 n] 3)
      have hs' := HKEEP.out _ _ hHeld hb'
      refine hK.out _ _ hs' (fun hH2 => ?_)
      exact H3_4_8.out gP W.heap.size (W.alloc (.cells #[.int .i64 n] 3)) hH2 (Out.made W [n] (by simp)).nums.2
    · go_simp
      have hb' := below_alloc W (.cells #[.bool false, .bool false, .bool false, .bool false, .bool false, .bool false, .bool false, .bool false, .int .u8 0, .int .u8 0, .int .i64 0] 24)
      have hs' := HKEEP.out _ _ hHeld hb'
      refine hK.out _ _ hs' (fun hH2 => ?_)
      exact H3_4_10.out gP W.heap.size (W.alloc (.cells #[.bool false, .bool false, .bool false, .bool false, .bool false, .bool false, .bool false, .bool false, .int .u8 0, .int .u8 0, .int .i64 0] 24)) hH2 (Md.laid W zero) (hHeld.2.2.2.2.2.2.2.2.2.2.2.out.1.size)
    · go_simp
      have hb' := below_alloc W (.cells #[.bool false, .bool false, .bool false, .bool false, .bool false, .bool false, .bool false, .bool false, .int .u8 0, .int .u8 0, .int .i64 0] 24)
      have hs' := HKEEP.out _ _ hHeld hb'
      refine hK.out _ _ hs' (fun hH2 => ?_)
      exact H3_4_11.out gP W.heap.size (W.alloc (.cells #[.bool false, .bool false, .bool false, .bool false, .bool false, .bool false, .bool false, .bool false, .int .u8 0, .int .u8 0, .int .i64 0] 24)) hH2 (Md.laid W zero) (hHeld.2.2.2.2.2.2.2.2.2.2.2.out.1.size)
  refine wpAnyH_cut (C := fun ops Q S => Hid (∀ (gP gQ : Nat) (W : World), S W → Nums W W.heap.size (some ⟨gP, 0, none⟩) 1 [n] → Nums W W.heap.size (some ⟨gQ, 0, none⟩) 1 [n] → wpAnyH Tryd.prog .any ops Q S 6 #[true, true, true, true, false, true, true, true, true, false, false, false, false, false] { tmps := ((.agg #[.bool m.f0, .bool m.f1, .bool m.f2, .bool m.f3, .bool m.f4, .bool m.f5, .bool m.f6, .bool m.f7, .int .u8 m.s0, .int .u8 m.s1, .int .i64 m.sh]) :: (.int .u8 p) :: (.int .i64 n) :: (.pointer (some ⟨w.heap.size, 0, none⟩)) :: undef :: undef :: (.bool false) :: undef :: undef :: undef :: undef :: undef :: undef :: undef :: (.agg #[.bool m.f0, .bool m.f1, .bool m.f2, .bool m.f3, .bool m.f4, .bool m.f5, .bool m.f6, .bool m.f7, .int .u8 m.s0, .int .u8 m.s1, .int .i64 m.sh]) :: (.int .u8 p) :: (.int .i64 n) :: (.slice (some ⟨gP, 0, none⟩) 1 1) :: undef :: (.agg #[.bool m.f0, .bool m.f1, .bool m.f2, .bool m.f3, .bool m.f4, .bool m.f5, .bool m.f6, .bool m.f7, .int .u8 m.s0, .int .u8 m.s1, .int .i64 m.sh]) :: (.int .u8 p) :: (.int .i64 n) :: (.slice (some ⟨gQ, 0, none⟩) 1 1) :: undef :: undef :: undef :: undef :: undef :: undef :: undef :: undef :: undef :: undef :: undef :: undef :: undef :: undef :: undef :: undef :: undef :: undef :: undef :: undef :: undef :: undef :: undef :: undef :: undef :: undef :: undef :: undef :: undef :: undef :: undef :: undef :: undef :: undef :: undef :: undef :: undef :: undef :: undef :: undef :: undef :: undef :: undef :: undef :: undef :: undef :: undef :: undef :: undef :: undef :: undef :: undef :: undef :: undef :: undef :: undef :: undef :: undef :: undef :: undef :: undef :: undef :: undef :: undef :: undef :: undef :: undef :: undef :: undef :: undef :: undef :: undef :: undef :: undef :: undef :: undef :: undef :: undef :: undef :: undef :: undef :: undef :: undef :: undef :: undef :: undef :: undef :: undef :: undef :: undef :: undef :: undef :: undef :: undef :: []).toArray, defers := [] } W)) (Lib.hid ?_) (fun H3_8 => ?_)
  · intro gP gQ W hHeld zP zQ
    have ZP := Lib.hid zP
    have ZQ := Lib.hid zQ
    clear zP zQ
    clear GA HD HKN HDIF HE HB1 HB2 HB HR
    refine wpAnyH_ready (rs := [4, 10, 11]) (by kernel_rfl) (by simp) ?_
    refine AllReadyH.cons rfl (fun K hK => ?_) (AllReadyH.cons rfl (fun K hK => ?_) (AllReadyH.cons rfl (fun K hK => ?_) AllReadyH.nil))
    · go_simp
      (with_reducible refine (G1.out gP _ ZP.out).mono ?_)
      rintro e w' ⟨rfl, hb'⟩
      have hs' := HKEEP.out _ _ hHeld hb'
      refine hK.out _ _ hs' (fun hH2 => ?_)
      exact H3_4_8.out gP gQ _ hH2 ((ZQ.out.below hb' (Nat.le_refl _)).more hb'.size)
    · go_simp
      have hb' := below_alloc W (.cells #[.bool false, .bool false, .bool false, .bool false, .bool false, .bool false, .bool false, .bool false, .int .u8 0, .int .u8 0, .int .i64 0] 24)
      have hs' := HKEEP.out _ _ hHeld hb'
      refine hK.out _ _ hs' (fun hH2 => ?_)
      exact H3_8_10.out gP gQ W.heap.size (W.alloc (.cells #[.bool false, .bool false, .bool false, .bool false, .bool false, .bool false, .bool false, .bool false, .int .u8 0, .int .u8 0, .int .i64 0] 24)) hH2 ((ZP.out.below hb' (Nat.le_refl _)).more hb'.size) ((ZQ.out.below hb' (Nat.le_refl _)).more hb'.size) (Md.laid W zero) (hHeld.2.2.2.2.2.2.2.2.2.2.2.out.1.size)
    · go_simp
      have hb' := below_alloc W (.cells #[.bool false, .bool false, .bool false, .bool false, .bool false, .bool false, .bool false, .bool false, .int .u8 0, .int .u8 0, .int .i64 0] 24)
      have hs' := HKEEP.out _ _ hHeld hb'
      refine hK.out _ _ hs' (fun hH2 => ?_)
      exact H3_8_11.out gP gQ W.heap.size (W.alloc (.cells #[.bool false, .bool false, .bool false, .bool false, .bool false, .bool false, .bool false, .bool false, .int .u8 0, .int .u8 0, .int .i64 0] 24)) hH2 ((ZP.out.below hb' (Nat.le_refl _)).more hb'.size) ((ZQ.out.below hb' (Nat.le_refl _)).more hb'.size) (Md.laid W zero) (hHeld.2.2.2.2.2.2.2.2.2.2.2.out.1.size)
  refine wpAnyH_cut (C := fun ops Q S => Hid (∀ (gP kA : Nat) (W : World), S W → Nums W W.heap.size (some ⟨gP, 0, none⟩) 1 [n] → Md W kA zero → y0.heap.size ≤ kA → wpAnyH Tryd.prog .any ops Q S 6 #[true, true, true, true, false, true, true, true, false, false, true, false, false, false] { tmps := ((.agg #[.bool m.f0, .bool m.f1, .bool m.f2, .bool m.f3, .bool m.f4, .bool m.f5, .bool m.f6, .bool m.f7, .int .u8 m.s0, .int .u8 m.s1, .int .i64 m.sh]) :: (.int .u8 p) :: (.int .i64 n) :: (.pointer (some ⟨w.heap.size, 0, none⟩)) :: undef :: undef :: (.bool false) :: (.pointer (some ⟨kA, 0, none⟩)) :: undef :: undef :: undef :: undef :: undef :: undef :: (.agg #[.bool m.f0, .bool m.f1, .bool m.f2, .bool m.f3, .bool m.f4, .bool m.f5, .bool m.f6, .bool m.f7, .int .u8 m.s0, .int .u8 m.s1, .int .i64 m.sh]) :: (.int .u8 p) :: (.int .i64 n) :: (.slice (some ⟨gP, 0, none⟩) 1 1) :: undef :: (.agg #[.bool m.f0, .bool m.f1, .bool m.f2, .bool m.f3, .bool m.f4, .bool m.f5, .bool m.f6, .bool m.f7, .int .u8 m.s0, .int .u8 m.s1, .int .i64 m.sh]) :: (.int .u8 p) :: (.int .i64 n) :: undef :: undef :: undef :: undef :: undef :: undef :: undef :: undef :: undef :: undef :: undef :: undef :: undef :: undef :: undef :: undef :: undef :: undef :: undef :: undef :: undef :: undef :: undef :: undef :: undef :: undef :: undef :: undef :: undef :: undef :: undef :: undef :: undef :: undef :: undef :: undef :: undef :: undef :: undef :: undef :: undef :: undef :: undef :: undef :: undef :: undef :: undef :: undef :: undef :: undef :: undef :: undef :: undef :: undef :: undef :: undef :: undef :: undef :: undef :: undef :: undef :: undef :: undef :: undef :: undef :: undef :: undef :: undef :: undef :: undef :: undef :: undef :: undef :: undef :: undef :: undef :: undef :: undef :: undef :: undef :: undef :: undef :: undef :: undef :: undef :: undef :: undef :: undef :: undef :: undef :: undef :: undef :: undef :: undef :: undef :: []).toArray, defers := [] } W)) (Lib.hid ?_) (fun H3_10 => ?_)
  · intro gP kA W hHeld zP zA za
    have ZP := Lib.hid zP
    have ZA := Lib.hid zA
    have Za := Lib.hid za
    clear zP zA za
    clear GA HD HKN HDIF HE HB1 HB2 HB HR
    refine wpAnyH_ready (rs := [4, 8, 11]) (by kernel_rfl) (by simp) ?_
    refine AllReadyH.cons rfl (fun K hK => ?_) (AllReadyH.cons rfl (fun K hK => ?_) (AllReadyH.cons rfl (fun K hK => ?_) AllReadyH.nil))
    · go_simp
      (with_reducible refine (G1.out gP _ ZP.out).mono ?_)
      rintro e w' ⟨rfl, hb'⟩
      have hs' := HKEEP.out _ _ hHeld hb'
      refine hK.out _ _ hs' (fun hH2 => ?_)
      exact H3_4_10.out gP kA _ hH2 (ZA.out.below hb') Za.out
    · go_simp
      have hb' := below_alloc W (.cells #[.int .i64 n] 3)
      have hs' := HKEEP.out _ _ hHeld hb'
      refine hK.out _ _ hs' (fun hH2 => ?_)
      exact H3_8_10.out gP W.heap.size kA (W.alloc (.cells #[.int .i64 n] 3)) hH2 ((ZP.out.below hb' (Nat.le_refl _)).more hb'.size) (Out.made W [n] (by simp)).nums.2 (ZA.out.below hb') Za.out
    · go_simp
      have hb' := below_alloc W (.cells #[.bool false, .bool false, .bool false, .bool false, .bool false, .bool false, .bool false, .bool false, .int .u8 0, .int .u8 0, .int .i64 0] 24)
      have hs' := HKEEP.out _ _ hHeld hb'
      refine hK.out _ _ hs' (fun hH2 => ?_)
      exact H3_10_11.out gP kA W.heap.size (W.alloc (.cells #[.bool false, .bool false, .bool false, .bool false, .bool false, .bool false, .bool false, .bool false, .int .u8 0, .int .u8 0, .int .i64 0] 24)) hH2 ((ZP.out.below hb' (Nat.le_refl _)).more hb'.size) (ZA.out.below hb') Za.out (Md.laid W zero) (hHeld.2.2.2.2.2.2.2.2.2.2.2.out.1.size) (by have := ZA.out.lt; omega)
  refine wpAnyH_cut (C := fun ops Q S => Hid (∀ (gP kB : Nat) (W : World), S W → Nums W W.heap.size (some ⟨gP, 0, none⟩) 1 [n] → Md W kB zero → y0.heap.size ≤ kB → wpAnyH Tryd.prog .any ops Q S 6 #[true, true, true, true, false, true, true, true, false, false, false, true, false, false] { tmps := ((.agg #[.bool m.f0, .bool m.f1, .bool m.f2, .bool m.f3, .bool m.f4, .bool m.f5, .bool m.f6, .bool m.f7, .int .u8 m.s0, .int .u8 m.s1, .int .i64 m.sh]) :: (.int .u8 p) :: (.int .i64 n) :: (.pointer (some ⟨w.heap.size, 0, none⟩)) :: undef :: undef :: (.bool false) :: undef :: (.pointer (some ⟨kB, 0, none⟩)) :: undef :: undef :: undef :: undef :: undef :: (.agg #[.bool m.f0, .bool m.f1, .bool m.f2, .bool m.f3, .bool m.f4, .bool m.f5, .bool m.f6, .bool m.f7, .int .u8 m.s0, .int .u8 m.s1, .int .i64 m.sh]) :: (.int .u8 p) :: (.int .i64 n) :: (.slice (some ⟨gP, 0, none⟩) 1 1) :: undef :: (.agg #[.bool m.f0, .bool m.f1, .bool m.f2, .bool m.f3, .bool m.f4, .bool m.f5, .bool m.f6, .bool m.f7, .int .u8 m.s0, .int .u8 m.s1, .int .i64 m.sh]) :: (.int .u8 p) :: (.int .i64 n) :: undef :: undef :: undef :: undef :: undef :: undef :: undef :: undef :: undef :: undef :: undef :: undef :: undef :: undef :: undef :: undef :: undef :: undef :: undef :: undef :: undef :: undef :: undef :: undef :: undef :: undef :: undef :: undef :: undef :: undef :: undef :: undef :: undef :: undef :: undef :: undef :: undef :: undef :: undef :: undef :: undef :: undef :: undef :: undef :: undef :: undef :: undef :: undef :: undef :: undef :: undef :: undef :: undef :: undef :: undef :: undef :: undef :: undef :: undef :: undef :: undef :: undef :: undef :: undef :: undef :: undef :: undef :: undef :: undef :: undef :: undef :: undef :: undef :: undef :: undef :: undef :: undef :: undef :: undef :: undef :: undef :: undef :: undef :: undef :: undef :: undef :: undef :: undef :: undef :: undef :: undef :: undef :: undef :: undef :: undef :: []).toArray, defers := [] } W)) (Lib.hid ?_) (fun H3_11 => ?_)
  · intro gP kB W hHeld zP zB zb
    have ZP := Lib.hid zP
    have ZB := Lib.hid zB
    have Zb := Lib.hid zb
    clear zP zB zb
    clear GA HD HKN HDIF HE HB1 HB2 HB HR
    refine wpAnyH_ready (rs := [4, 8, 10]) (by kernel_rfl) (by simp) ?_
    refine AllReadyH.cons rfl (fun K hK => ?_) (AllReadyH.cons rfl (fun K hK => ?_) (AllReadyH.cons rfl (fun K hK => ?_) AllReadyH.nil))
    · go_simp
      (with_reducible refine (G1.out gP _ ZP.out).mono ?_)
      rintro e w' ⟨rfl, hb'⟩
      have hs' := HKEEP.out _ _ hHeld hb'
      refine hK.out _ _ hs' (fun hH2 => ?_)
      exact H3_4_11.out gP kB _ hH2 (ZB.out.below hb') Zb.out
    · go_simp
      have hb' := below_alloc W (.cells #[.int .i64 n] 3)
      have hs' := HKEEP.out _ _ hHeld hb'
      refine hK.out _ _ hs' (fun hH2 => ?_)
      exact H3_8_11.out gP W.heap.size kB (W.alloc (.cells #[.int .i64 n] 3)) hH2 ((ZP.out.below hb' (Nat.le_refl _)).more hb'.size) (Out.made W [n] (by simp)).nums.2 (ZB.out.below hb') Zb.out
    · go_simp
      have hb' := below_alloc W (.cells #[.bool false, .bool false, .bool false, .bool false, .bool false, .bool false, .bool false, .bool false, .int .u8 0, .int .u8 0, .int .i64 0] 24)
      have hs' := HKEEP.out _ _ hHeld hb'
      refine hK.out _ _ hs' (fun hH2 => ?_)
      exact H3_10_11.out gP W.heap.size kB (W.alloc (.cells #[.bool false, .bool false, .bool false, .bool false, .bool false, .bool false, .bool false, .bool false, .int .u8 0, .int .u8 0, .int .i64 0] 24)) hH2 ((ZP.out.below hb' (Nat.le_refl _)).more hb'.size) (Md.laid W zero) (hHeld.2.2.2.2.2.2.2.2.2.2.2.out.1.size) (ZB.out.below hb') Zb.out (by have := ZB.out.lt; omega)
  refine wpAnyH_cut (C := fun ops Q S => Hid (∀ (gQ kA : Nat) (W : World), S W → Nums W W.heap.size (some ⟨gQ, 0, none⟩) 1 [n] → Md W kA zero → y0.heap.size ≤ kA → wpAnyH Tryd.prog .any ops Q S 6 #[true, true, true, false, false, true, true, true, true, false, true, false, false, false] { tmps := ((.agg #[.bool m.f0, .bool m.f1, .bool m.f2, .bool m.f3, .bool m.f4, .bool m.f5, .bool m.f6, .bool m.f7, .int .u8 m.s0, .int .u8 m.s1, .int .i64 m.sh]) :: (.int .u8 p) :: (.int .i64 n) :: (.pointer (some ⟨w.heap.size, 0, none⟩)) :: undef :: undef :: (.bool false) :: (.pointer (some ⟨kA, 0, none⟩)) :: undef :: undef :: undef :: undef :: undef :: undef :: (.agg #[.bool m.f0, .bool m.f1, .bool m.f2, .bool m.f3, .bool m.f4, .bool m.f5, .bool m.f6, .bool m.f7, .int .u8 m.s0, .int .u8 m.s1, .int .i64 m.sh]) :: (.int .u8 p) :: (.int .i64 n) :: undef :: undef :: (.agg #[.bool m.f0, .bool m.f1, .bool m.f2, .bool m.f3, .bool m.f4, .bool m.f5, .bool m.f6, .bool m.f7, .int .u8 m.s0, .int .u8 m.s1, .int .i64 m.sh]) :: (.int .u8 p) :: (.int .i64 n) :: (.slice (some ⟨gQ, 0, none⟩) 1 1) :: undef :: undef :: undef :: undef :: undef :: undef :: undef :: undef :: undef :: undef :: undef :: undef :: undef :: undef :: undef :: undef :: undef :: undef :: undef :: undef :: undef :: undef :: undef :: undef :: undef :: undef :: undef :: undef :: undef :: undef :: undef :: undef :: undef :: undef :: undef :: undef :: undef :: undef :: undef :: undef :: undef :: undef :: undef :: undef :: undef :: undef :: undef :: undef :: undef :: undef :: undef :: undef :: undef :: undef :: undef :: undef :: undef :: undef :: undef :: undef :: undef :: undef :: undef :: undef :: undef :: undef :: undef :: undef :: undef :: undef :: undef :: undef :: undef :: undef :: undef :: undef :: undef :: undef :: undef :: undef :: undef :: undef :: undef :: undef :: undef :: undef :: undef :: undef :: undef :: undef :: undef :: undef :: undef :: undef :: []).toArray, defers := [] } W)) (Lib.hid ?_) (fun H8_10 => ?_)
  · intro gQ kA W hHeld zQ zA za
    have ZQ := Lib.hid zQ
    have ZA := Lib.hid zA
    have Za := Lib.hid za
    clear zQ zA za
    clear GA HD HKN HDIF HE HB1 HB2 HB HR
    refine wpAnyH_ready (rs := [3, 11]) (by kernel_rfl) (by simp) ?_
    refine AllReadyH.cons rfl (fun K hK => ?_) (AllReadyH.cons rfl (fun K hK => ?_) AllReadyH.nil)
    · go_simp
      have hb' := below_alloc W (.cells #[.int .i64 n] 3)
      have hs' := HKEEP.out _ _ hHeld hb'
      refine hK.out _ _ hs' (fun hH2 => ?_)
      exact H3_8_10.out W.heap.size gQ kA (W.alloc (.cells #[.int .i64 n] 3)) hH2 (Out.made W [n] (by simp)).nums.2 ((ZQ.out.below hb' (Nat.le_refl _)).more hb'.size) (ZA.out.below hb') Za.out
    · go_simp
      have hb' := below_alloc W (.cells #[.bool false, .bool false, .bool false, .bool false, .bool false, .bool false, .bool false, .bool false, .int .u8 0, .int .u8 0, .int .i64 0] 24)
      have hs' := HKEEP.out _ _ hHeld hb'
      refine hK.out _ _ hs' (fun hH2 => ?_)
      exact H8_10_11.out gQ kA W.heap.size (W.alloc (.cells #[.bool false, .bool false, .bool false, .bool false, .bool false, .bool false, .bool false, .bool false, .int .u8 0, .int .u8 0, .int .i64 0] 24)) hH2 ((ZQ.out.below hb' (Nat.le_refl _)).more hb'.size) (ZA.out.below hb') Za.out (Md.laid W zero) (hHeld.2.2.2.2.2.2.2.2.2.2.2.out.1.size) (by have := ZA.out.lt; omega)
  refine wpAnyH_cut (C := fun ops Q S => Hid (∀ (gQ kB : Nat) (W : World), S W → Nums W W.heap.size (some ⟨gQ, 0, none⟩) 1 [n] → Md W kB zero → y0.heap.size ≤ kB → wpAnyH Tryd.prog .any ops Q S 6 #[true, true, true, false, false, true, true, true, true, false, false, true, false, false] { tmps := ((.agg #[.bool m.f0, .bool m.f1, .bool m.f2, .bool m.f3, .bool m.f4, .bool m.f5, .bool m.f6, .bool m.f7, .int .u8 m.s0, .int .u8 m.s1, .int .i64 m.sh]) :: (.int .u8 p) :: (.int .i64 n) :: (.pointer (some ⟨w.heap.size, 0, none⟩)) :: undef :: undef :: (.bool false) :: undef :: (.pointer (some ⟨kB, 0, none⟩)) :: undef :: undef :: undef :: undef :: undef :: (.agg #[.bool m.f0, .bool m.f1, .bool m.f2, .bool m.f3, .bool m.f4, .bool m.f5, .bool m.f6, .bool m.f7, .int .u8 m.s0, .int .u8 m.s1, .int .i64 m.sh]) :: (.int .u8 p) :: (.int .i64 n) :: undef :: undef :: (.agg #[.bool m.f0, .bool m.f1, .bool m.f2, .bool m.f3, .bool m.f4, .bool m.f5, .bool m.f6, .bool m.f7, .int .u8 m.s0, .int .u8 m.s1, .int .i64 m.sh]) :: (.int .u8 p) :: (.int .i64 n) :: (.slice (some ⟨gQ, 0, none⟩) 1 1) :: undef :: undef :: undef :: undef :: undef :: undef :: undef :: undef :: undef :: undef :: undef :: undef :: undef :: undef :: undef :: undef :: undef :: undef :: undef :: undef :: undef :: undef :: undef :: undef :: undef :: undef :: undef :: undef :: undef :: undef :: undef :: undef :: undef :: undef :: undef :: undef :: undef :: undef :: undef :: undef :: undef :: undef :: undef :: undef :: undef :: undef :: undef :: undef :: undef :: undef :: undef :: undef :: undef :: undef :: undef :: undef :: undef :: undef :: undef :: undef :: undef :: undef :: undef :: undef :: undef :: undef :: undef :: undef :: undef :: undef :: undef :: undef :: undef :: undef :: undef :: undef :: undef :: undef :: undef :: undef :: undef :: undef :: undef :: undef :: undef :: undef :: undef :: undef :: undef :: undef :: undef :: undef :: undef :: undef :: []).toArray, defers := [] } W)) (Lib.hid ?_) (fun H8_11 => ?_)
  · intro gQ kB W hHeld zQ zB zb
    have ZQ := Lib.hid zQ
    have ZB := Lib.hid zB
    have Zb := Lib.hid zb
    clear zQ zB zb
    clear GA HD HKN HDIF HE HB1 HB2 HB HR
    refine wpAnyH_ready (rs := [3, 10]) (by kernel_rfl) (by simp) ?_
    refine AllReadyH.cons rfl (fun K hK => ?_) (AllReadyH.cons rfl (fun K hK => ?_) AllReadyH.nil)
    · go_simp
      have hb' := below_alloc W (.cells #[.int .i64 n] 3)
      have hs' := HKEEP.out _ _ hHeld hb'
      refine hK.out _ _ hs' (fun hH2 => ?_)
      exact H3_8_11.out W.heap.size gQ kB (W.alloc (.cells #[.int .i64 n] 3)) hH2 (Out.made W [n] (by simp)).nums.2 ((ZQ.out.below hb' (Nat.le_refl _)).more hb'.size) (ZB.out.below hb') Zb.out
    · go_simp
      have hb' := below_alloc W (.cells #[.bool false, .bool false, .bool false, .bool false, .bool false, .bool false, .bool false, .bool false, .int .u8 0, .int .u8 0, .int .i64 0] 24)
      have hs' := HKEEP.out _ _ hHeld hb'
      refine hK.out _ _ hs' (fun hH2 => ?_)
      exact H8_10_11.out gQ W.heap.size kB (W.alloc (.cells #[.bool false, .bool false, .bool false, .bool false, .bool false, .bool false, .bool false, .bool false, .int .u8 0, .int .u8 0, .int .i64 0] 24)) hH2 ((ZQ.out.below hb' (Nat.le_refl _)).more hb'.size) (Md.laid W zero) (hHeld.2.2.2.2.2.2.2.2.2.2.2.out.1.size) (ZB.out.below hb') Zb.out (by have := ZB.out.lt; omega)
  refine wpAnyH_cut (C := fun ops Q S => Hid (∀ (kA kB : Nat) (W : World), S W → Md W kA zero → y0.heap.size ≤ kA → Md W kB zero → y0.heap.size ≤ kB → kA ≠ kB → wpAnyH Tryd.prog .any ops Q S 6 #[true, true, true, false, false, true, true, true, false, false, true, true, false, false] { tmps := ((.agg #[.bool m.f0, .bool m.f1, .bool m.f2, .bool m.f3, .bool m.f4, .bool m.f5, .bool m.f6, .bool m.f7, .int .u8 m.s0, .int .u8 m.s1, .int .i64 m.sh]) :: (.int .u8 p) :: (.int .i64 n) :: (.pointer (some ⟨w.heap.size, 0, none⟩)) :: undef :: undef :: (.bool false) :: (.pointer (some ⟨kA, 0, none⟩)) :: (.pointer (some ⟨kB, 0, none⟩)) :: undef :: undef :: undef :: undef :: undef :: (.agg #[.bool m.f0, .bool m.f1, .bool m.f2, .bool m.f3, .bool m.f4, .bool m.f5, .bool m.f6, .bool m.f7, .int .u8 m.s0, .int .u8 m.s1, .int .i64 m.sh]) :: (.int .u8 p) :: (.int .i64 n) :: undef :: undef :: (.agg #[.bool m.f0, .bool m.f1, .bool m.f2, .bool m.f3, .bool m.f4, .bool m.f5, .bool m.f6, .bool m.f7, .int .u8 m.s0, .int .u8 m.s1, .int .i64 m.sh]) :: (.int .u8 p) :: (.int .i64 n) :: undef :: undef :: undef :: undef :: undef :: undef :: undef :: undef :: undef :: undef :: undef :: undef :: undef :: undef :: undef :: undef :: undef :: undef :: undef :: undef :: undef :: undef :: undef :: undef :: undef :: undef :: undef :: undef :: undef :: undef :: undef :: undef :: undef :: undef :: undef :: undef :: undef :: undef :: undef :: undef :: undef :: undef :: undef :: undef :: undef :: undef :: undef :: undef :: undef :: undef :: undef :: undef :: undef :: undef :: undef :: undef :: undef :: undef :: undef :: undef :: undef :: undef :: undef :: undef :: undef :: undef :: undef :: undef :: undef :: undef :: undef :: undef :: undef :: undef :: undef :: undef :: undef :: undef :: undef :: undef :: undef :: undef :: undef :: undef :: undef :: undef :: undef :: undef :: undef :: undef :: undef :: undef :: undef :: undef :: undef :: []).toArray, defers := [] } W)) (Lib.hid ?_) (fun H10_11 => ?_)
  · intro kA kB W hHeld zA za zB zb zn
    have ZA := Lib.hid zA
    have Za := Lib.hid za
    have ZB := Lib.hid zB
    have Zb := Lib.hid zb
    have Zn := Lib.hid zn
    clear zA za zB zb zn
    clear GA HD HKN HDIF HE HB1 HB2 HB HR
    refine wpAnyH_ready (rs := [3, 8]) (by kernel_rfl) (by simp) ?_
    refine AllReadyH.cons rfl (fun K hK => ?_) (AllReadyH.cons rfl (fun K hK => ?_) AllReadyH.nil)
    · go_simp
      have hb' := below_alloc W (.cells #[.int .i64 n] 3)
      have hs' := HKEEP.out _ _ hHeld hb'
      refine hK.out _ _ hs' (fun hH2 => ?_)
      exact H3_10_11.out W.heap.size kA kB (W.alloc (.cells #[.int .i64 n] 3)) hH2 (Out.made W [n] (by simp)).nums.2 (ZA.out.below hb') Za.out (ZB.out.below hb') Zb.out Zn.out
    · go_simp
      have hb' := below_alloc W (.cells #[.int .i64 n] 3)
      have hs' := HKEEP.out _ _ hHeld hb'
      refine hK.out _ _ hs' (fun hH2 => ?_)
      exact H8_10_11.out W.heap.size kA kB (W.alloc (.cells #[.int .i64 n] 3)) hH2 (Out.made W [n] (by simp)).nums.2 (ZA.out.below hb') Za.out (ZB.out.below hb') Zb.out Zn.out
  refine wpAnyH_cut (C := fun ops Q S => Hid (∀ (gP : Nat) (W : World), S W → Nums W W.heap.size (some ⟨gP, 0, none⟩) 1 [n] → wpAnyH Tryd.prog .any ops Q S 7 #[true, true, true, true, false, true, true, true, false, false, false, false, false, false] { tmps := ((.agg #[.bool m.f0, .bool m.f1, .bool m.f2, .bool m.f3, .bool m.f4, .bool m.f5, .bool m.f6, .bool m.f7, .int .u8 m.s0, .int .u8 m.s1, .int .i64 m.sh]) :: (.int .u8 p) :: (.int .i64 n) :: (.pointer (some ⟨w.heap.size, 0, none⟩)) :: undef :: undef :: (.bool false) :: undef :: undef :: undef :: undef :: undef :: undef :: undef :: (.agg #[.bool m.f0, .bool m.f1, .bool m.f2, .bool m.f3, .bool m.f4, .bool m.f5, .bool m.f6, .bool m.f7, .int .u8 m.s0, .int .u8 m.s1, .int .i64 m.sh]) :: (.int .u8 p) :: (.int .i64 n) :: (.slice (some ⟨gP, 0, none⟩) 1 1) :: undef :: (.agg #[.bool m.f0, .bool m.f1, .bool m.f2, .bool m.f3, .bool m.f4, .bool m.f5, .bool m.f6, .bool m.f7, .int .u8 m.s0, .int .u8 m.s1, .int .i64 m.sh]) :: (.int .u8 p) :: (.int .i64 n) :: undef :: undef :: undef :: undef :: undef :: undef :: undef :: undef :: undef :: undef :: undef :: undef :: undef :: undef :: undef :: undef :: undef :: undef :: undef :: undef :: undef :: undef :: undef :: undef :: undef :: undef :: undef :: undef :: undef :: undef :: undef :: undef :: undef :: undef :: undef :: undef :: undef :: undef :: undef :: undef :: undef :: undef :: undef :: undef :: undef :: undef :: undef :: undef :: undef :: undef :: undef :: undef :: undef :: undef :: undef :: undef :: undef :: undef :: undef :: undef :: undef :: undef :: undef :: undef :: undef :: undef :: undef :: undef :: undef :: undef :: undef :: undef :: undef :: undef :: undef :: undef :: undef :: undef :: undef :: undef :: undef :: undef :: undef :: undef :: undef :: undef :: undef :: undef :: undef :: undef :: undef :: undef :: undef :: undef :: undef :: []).toArray, defers := [] } W)) (Lib.hid ?_) (fun H3 => ?_)
  · intro gP W hHeld zP
    have ZP := Lib.hid zP
    clear zP
    clear GA HD HKN HDIF HE HB1 HB2 HB HR
    refine wpAnyH_ready (rs := [4, 8, 10, 11]) (by kernel_rfl) (by simp) ?_
    refine AllReadyH.cons rfl (fun K hK => ?_) (AllReadyH.cons rfl (fun K hK => ?_) (AllReadyH.cons rfl (fun K hK => ?_) (AllReadyH.cons rfl (fun K hK => ?_) AllReadyH.nil)))
    · go_simp
      (with_reducible refine (G1.out gP _ ZP.out).mono ?_)
      rintro e w' ⟨rfl, hb'⟩
      have hs' := HKEEP.out _ _ hHeld hb'
      refine hK.out _ _ hs' (fun hH2 => ?_)
      exact H3_4.out gP _ hH2 
    · go_simp
      have hb' := below_alloc W (.cells #[.int .i64 n] 3)
      have hs' := HKEEP.out _ _ hHeld hb'
      refine hK.out _ _ hs' (fun hH2 => ?_)
      exact H3_8.out gP W.heap.size (W.alloc (.cells #[.int .i64 n] 3)) hH2 ((ZP.out.below hb' (Nat.le_refl _)).more hb'.size) (Out.made W [n] (by simp)).nums.2
    · go_simp
      have hb' := below_alloc W (.cells #[.bool false, .bool false, .bool false, .bool false, .bool false, .bool false, .bool false, .bool false, .int .u8 0, .int .u8 0, .int .i64 0] 24)
      have hs' := HKEEP.out _ _ hHeld hb'
      refine hK.out _ _ hs' (fun hH2 => ?_)
      exact H3_10.out gP W.heap.size (W.alloc (.cells #[.bool false, .bool false, .bool false, .bool false, .bool false, .bool false, .bool false, .bool false, .int .u8 0, .int .u8 0, .int .i64 0] 24)) hH2 ((ZP.out.below hb' (Nat.le_refl _)).more hb'.size) (Md.laid W zero) (hHeld.2.2.2.2.2.2.2.2.2.2.2.out.1.size)
    · go_simp
      have hb' := below_alloc W (.cells #[.bool false, .bool false, .bool false, .bool false, .bool false, .bool false, .bool false, .bool false, .int .u8 0, .int .u8 0, .int .i64 0] 24)
      have hs' := HKEEP.out _ _ hHeld hb'
      refine hK.out _ _ hs' (fun hH2 => ?_)
      exact H3_11.out gP W.heap.size (W.alloc (.cells #[.bool false, .bool false, .bool false, .bool false, .bool false, .bool false, .bool false, .bool false, .int .u8 0, .int .u8 0, .int .i64 0] 24)) hH2 ((ZP.out.below hb' (Nat.le_refl _)).more hb'.size) (Md.laid W zero) (hHeld.2.2.2.2.2.2.2.2.2.2.2.out.1.size)
  refine wpAnyH_cut (C := fun ops Q S => Hid (∀ (gQ : Nat) (W : World), S W → Nums W W.heap.size (some ⟨gQ, 0, none⟩) 1 [n] → wpAnyH Tryd.prog .any ops Q S 7 #[true, true, true, false, false, true, true, true, true, false, false, false, false, false] { tmps := ((.agg #[.bool m.f0, .bool m.f1, .bool m.f2, .bool m.f3, .bool m.f4, .bool m.f5, .bool m.f6, .bool m.f7, .int .u8 m.s0, .int .u8 m.s1, .int .i64 m.sh]) :: (.int .u8 p) :: (.int .i64 n) :: (.pointer (some ⟨w.heap.size, 0, none⟩)) :: undef :: undef :: (.bool false) :: undef :: undef :: undef :: undef :: undef :: undef :: undef :: (.agg #[.bool m.f0, .bool m.f1, .bool m.f2, .bool m.f3, .bool m.f4, .bool m.f5, .bool m.f6, .bool m.f7, .int .u8 m.s0, .int .u8 m.s1, .int .i64 m.sh]) :: (.int .u8 p) :: (.int .i64 n) :: undef :: undef :: (.agg #[.bool m.f0, .bool m.f1, .bool m.f2, .bool m.f3, .bool m.f4, .bool m.f5, .bool m.f6, .bool m.f7, .int .u8 m.s0, .int .u8 m.s1, .int .i64 m.sh]) :: (.int .u8 p) :: (.int .i64 n) :: (.slice (some ⟨gQ, 0, none⟩) 1 1) :: undef :: undef :: undef :: undef :: undef :: undef :: undef :: undef :: undef :: undef :: undef :: undef :: undef :: undef :: undef :: undef :: undef :: undef :: undef :: undef :: undef :: undef :: undef :: undef :: undef :: undef :: undef :: undef :: undef :: undef :: undef :: undef :: undef :: undef :: undef :: undef :: undef :: undef :: undef :: undef :: undef :: undef :: undef :: undef :: undef :: undef :: undef :: undef :: undef :: undef :: undef :: undef :: undef :: undef :: undef :: undef :: undef :: undef :: undef :: undef :: undef :: undef :: undef :: undef :: undef :: undef :: undef :: undef :: undef :: undef :: undef :: undef :: undef :: undef :: undef :: undef :: undef :: undef :: undef :: undef :: undef :: undef :: undef :: undef :: undef :: undef :: undef :: undef :: undef :: undef :: undef :: undef :: undef :: undef :: []).toArray, defers := [] } W)) (Lib.hid ?_) (fun H8 => ?_)
  · intro gQ W hHeld zQ
    have ZQ := Lib.hid zQ
    clear zQ
    clear GA HD HKN HDIF HE HB1 HB2 HB HR
    refine wpAnyH_ready (rs := [3, 10, 11]) (by kernel_rfl) (by simp) ?_
    refine AllReadyH.cons rfl (fun K hK => ?_) (AllReadyH.cons rfl (fun K hK => ?_) (AllReadyH.cons rfl (fun K hK => ?_) AllReadyH.nil))
    · go_simp
      have hb' := below_alloc W (.cells #[.int .i64 n] 3)
      have hs' := HKEEP.out _ _ hHeld hb'
      refine hK.out _ _ hs' (fun hH2 => ?_)
      exact H3_8.out W.heap.size gQ (W.alloc (.cells #[.int .i64 n] 3)) hH2 (Out.made W [n] (by simp)).nums.2 ((ZQ.out.below hb' (Nat.le_refl _)).more hb'.size)
    · go_simp
      have hb' := below_alloc W (.cells #[.bool false, .bool false, .bool false, .bool false, .bool false, .bool false, .bool false, .bool false, .int .u8 0, .int .u8 0, .int .i64 0] 24)
      have hs' := HKEEP.out _ _ hHeld hb'
      refine hK.out _ _ hs' (fun hH2 => ?_)
      exact H8_10.out gQ W.heap.size (W.alloc (.cells #[.bool false, .bool false, .bool false, .bool false, .bool false, .bool false, .bool false, .bool false, .int .u8 0, .int .u8 0, .int .i64 0] 24)) hH2 ((ZQ.out.below hb' (Nat.le_refl _)).more hb'.size) (Md.laid W zero) (hHeld.2.2.2.2.2.2.2.2.2.2.2.out.1.size)
    · go_simp
      have hb' := below_alloc W (.cells #[.bool false, .bool false, .bool false, .bool false, .bool false, .bool false, .bool false, .bool false, .int .u8 0, .int .u8 0, .int .i64 0] 24)
      have hs' := HKEEP.out _ _ hHeld hb'
      refine hK.out _ _ hs' (fun hH2 => ?_)
      exact H8_11.out gQ W.heap.size (W.alloc (.cells #[.bool false, .bool false, .bool false, .bool false, .bool false, .bool false, .bool false, .bool false, .int .u8 0, .int .u8 0, .int .i64 0] 24)) hH2 ((ZQ.out.below hb' (Nat.le_refl _)).more hb'.size) (Md.laid W zero) (hHeld.2.2.2.2.2.2.2.2.2.2.2.out.1.size)
  refine wpAnyH_cut (C := fun ops Q S => Hid (∀ (kA : Nat) (W : World), S W → Md W kA zero → y0.heap.size ≤ kA → wpAnyH Tryd.prog .any ops Q S 7 #[true, true, true, false, false, true, true, true, false, false, true, false, false, false] { tmps := ((.agg #[.bool m.f0, .bool m.f1, .bool m.f2, .bool m.f3, .bool m.f4, .bool m.f5, .bool m.f6, .bool m.f7, .int .u8 m.s0, .int .u8 m.s1, .int .i64 m.sh]) :: (.int .u8 p) :: (.int .i64 n) :: (.pointer (some ⟨w.heap.size, 0, none⟩)) :: undef :: undef :: (.bool false) :: (.pointer (some ⟨kA, 0, none⟩)) :: undef :: undef :: undef :: undef :: undef :: undef :: (.agg #[.bool m.f0, .bool m.f1, .bool m.f2, .bool m.f3, .bool m.f4, .bool m.f5, .bool m.f6, .bool m.f7, .int .u8 m.s0, .int .u8 m.s1, .int .i64 m.sh]) :: (.int .u8 p) :: (.int .i64 n) :: undef :: undef :: (.agg #[.bool m.f0, .bool m.f1, .bool m.f2, .bool m.f3, .bool m.f4, .bool m.f5, .bool m.f6, .bool m.f7, .int .u8 m.s0, .int .u8 m.s1, .int .i64 m.sh]) :: (.int .u8 p) :: (.int .i64 n) :: undef :: undef :: undef :: undef :: undef :: undef :: undef :: undef :: undef :: undef :: undef :: undef :: undef :: undef :: undef :: undef :: undef :: undef :: undef :: undef :: undef :: undef :: undef :: undef :: undef :: undef :: undef :: undef :: undef :: undef :: undef :: undef :: undef :: undef :: undef :: undef :: undef :: undef :: undef :: undef :: undef :: undef :: undef :: undef :: undef :: undef :: undef :: undef :: undef :: undef :: undef :: undef :: undef :: undef :: undef :: undef :: undef :: undef :: undef :: undef :: undef :: undef :: undef :: undef :: undef :: undef :: undef :: undef :: undef :: undef :: undef :: undef :: undef :: undef :: undef :: undef :: undef :: undef :: undef :: undef :: undef :: undef :: undef :: undef :: undef :: undef :: undef :: undef :: undef :: undef :: undef :: undef :: undef :: undef :: undef :: []).toArray, defers := [] } W)) (Lib.hid ?_) (fun H10 => ?_)
  · intro kA W hHeld zA za
    have ZA := Lib.hid zA
    have Za := Lib.hid za
    clear zA za
    clear GA HD HKN HDIF HE HB1 HB2 HB HR
    refine wpAnyH_ready (rs := [3, 8, 11]) (by kernel_rfl) (by simp) ?_
    refine AllReadyH.cons rfl (fun K hK => ?_) (AllReadyH.cons rfl (fun K hK => ?_) (AllReadyH.cons rfl (fun K hK => ?_) AllReadyH.nil))
    · go_simp
      have hb' := below_alloc W (.cells #[.int .i64 n] 3)
      have hs' := HKEEP.out _ _ hHeld hb'
      refine hK.out _ _ hs' (fun hH2 => ?_)
      exact H3_10.out W.heap.size kA (W.alloc (.cells #[.int .i64 n] 3)) hH2 (Out.made W [n] (by simp)).nums.2 (ZA.out.below hb') Za.out
    · go_simp
      have hb' := below_alloc W (.cells #[.int .i64 n] 3)
      have hs' := HKEEP.out _ _ hHeld hb'
      refine hK.out _ _ hs' (fun hH2 => ?_)
      exact H8_10.out W.heap.size kA (W.alloc (.cells #[.int .i64 n] 3)) hH2 (Out.made W [n] (by simp)).nums.2 (ZA.out.below hb') Za.out
    · go_simp
      have hb' := below_alloc W (.cells #[.bool false, .bool false, .bool false, .bool false, .bool false, .bool false, .bool false, .bool false, .int .u8 0, .int .u8 0, .int .i64 0] 24)
      have hs' := HKEEP.out _ _ hHeld hb'
      refine hK.out _ _ hs' (fun hH2 => ?_)
      exact H10_11.out kA W.heap.size (W.alloc (.cells #[.bool false, .bool false, .bool false, .bool false, .bool false, .bool false, .bool false, .bool false, .int .u8 0, .int .u8 0, .int .i64 0] 24)) hH2 (ZA.out.below hb') Za.out (Md.laid W zero) (hHeld.2.2.2.2.2.2.2.2.2.2.2.out.1.size) (by have := ZA.out.lt; omega)
  refine wpAnyH_cut (C := fun ops Q S => Hid (∀ (kB : Nat) (W : World), S W → Md W kB zero → y0.heap.size ≤ kB → wpAnyH Tryd.prog .any ops Q S 7 #[true, true, true, false, false, true, true, true, false, false, false, true, false, false] { tmps := ((.agg #[.bool m.f0, .bool m.f1, .bool m.f2, .bool m.f3, .bool m.f4, .bool m.f5, .bool m.f6, .bool m.f7, .int .u8 m.s0, .int .u8 m.s1, .int .i64 m.sh]) :: (.int .u8 p) :: (.int .i64 n) :: (.pointer (some ⟨w.heap.size, 0, none⟩)) :: undef :: undef :: (.bool false) :: undef :: (.pointer (some ⟨kB, 0, none⟩)) :: undef :: undef :: undef :: undef :: undef :: (.agg #[.bool m.f0, .bool m.f1, .bool m.f2, .bool m.f3, .bool m.f4, .bool m.f5, .bool m.f6, .bool m.f7, .int .u8 m.s0, .int .u8 m.s1, .int .i64 m.sh]) :: (.int .u8 p) :: (.int .i64 n) :: undef :: undef :: (.agg #[.bool m.f0, .bool m.f1, .bool m.f2, .bool m.f3, .bool m.f4, .bool m.f5, .bool m.f6, .bool m.f7, .int .u8 m.s0, .int .u8 m.s1, .int .i64 m.sh]) :: (.int .u8 p) :: (.int .i64 n) :: undef :: undef :: undef :: undef :: undef :: undef :: undef :: undef :: undef :: undef :: undef :: undef :: undef :: undef :: undef :: undef :: undef :: undef :: undef :: undef :: undef :: undef :: undef :: undef :: undef :: undef :: undef :: undef :: undef :: undef :: undef :: undef :: undef :: undef :: undef :: undef :: undef :: undef :: undef :: undef :: undef :: undef :: undef :: undef :: undef :: undef :: undef :: undef :: undef :: undef :: undef :: undef :: undef :: undef :: undef :: undef :: undef :: undef :: undef :: undef :: undef :: undef :: undef :: undef :: undef :: undef :: undef :: undef :: undef :: undef :: undef :: undef :: undef :: undef :: undef :: undef :: undef :: undef :: undef :: undef :: undef :: undef :: undef :: undef :: undef :: undef :: undef :: undef :: undef :: undef :: undef :: undef :: undef :: undef :: undef :: []).toArray, defers := [] } W)) (Lib.hid ?_) (fun H11 => ?_)
  · intro kB W hHeld zB zb
    have ZB := Lib.hid zB
    have Zb := Lib.hid zb
    clear zB zb
    clear GA HD HKN HDIF HE HB1 HB2 HB HR
    refine wpAnyH_ready (rs := [3, 8, 10]) (by kernel_rfl) (by simp) ?_
    refine AllReadyH.cons rfl (fun K hK => ?_) (AllReadyH.cons rfl (fun K hK => ?_) (AllReadyH.cons rfl (fun K hK => ?_) AllReadyH.nil))
    · go_simp
      have hb' := below_alloc W (.cells #[.int .i64 n] 3)
      have hs' := HKEEP.out _ _ hHeld hb'
      refine hK.out _ _ hs' (fun hH2 => ?_)
      exact H3_11.out W.heap.size kB (W.alloc (.cells #[.int .i64 n] 3)) hH2 (Out.made W [n] (by simp)).nums.2 (ZB.out.below hb') Zb.out
    · go_simp
      have hb' := below_alloc W (.cells #[.int .i64 n] 3)
      have hs' := HKEEP.out _ _ hHeld hb'
      refine hK.out _ _ hs' (fun hH2 => ?_)
      exact H8_11.out W.heap.size kB (W.alloc (.cells #[.int .i64 n] 3)) hH2 (Out.made W [n] (by simp)).nums.2 (ZB.out.below hb') Zb.out
    · go_simp
      have hb' := below_alloc W (.cells #[.bool false, .bool false, .bool false, .bool false, .bool false, .bool false, .bool false, .bool false, .int .u8 0, .int .u8 0, .int .i64 0] 24)
      have hs' := HKEEP.out _ _ hHeld hb'
      refine hK.out _ _ hs' (fun hH2 => ?_)
      exact H10_11.out W.heap.size kB (W.alloc (.cells #[.bool false, .bool false, .bool false, .bool false, .bool false, .bool false, .bool false, .bool false, .int .u8 0, .int .u8 0, .int .i64 0] 24)) hH2 (Md.laid W zero) (hHeld.2.2.2.2.2.2.2.2.2.2.2.out.1.size) (ZB.out.below hb') Zb.out (by have := ZB.out.lt; omega)
  refine wpAnyH_cut (C := fun ops Q S => Hid (∀ (W : World), S W → wpAnyH Tryd.prog .any ops Q S 8 #[true, true, true, false, false, true, true, true, false, false, false, false, false, false] { tmps := ((.agg #[.bool m.f0, .bool m.f1, .bool m.f2, .bool m.f3, .bool m.f4, .bool m.f5, .bool m.f6, .bool m.f7, .int .u8 m.s0, .int .u8 m.s1, .int .i64 m.sh]) :: (.int .u8 p) :: (.int .i64 n) :: (.pointer (some ⟨w.heap.size, 0, none⟩)) :: undef :: undef :: (.bool false) :: undef :: undef :: undef :: undef :: undef :: undef :: undef :: (.agg #[.bool m.f0, .bool m.f1, .bool m.f2, .bool m.f3, .bool m.f4, .bool m.f5, .bool m.f6, .bool m.f7, .int .u8 m.s0, .int .u8 m.s1, .int .i64 m.sh]) :: (.int .u8 p) :: (.int .i64 n) :: undef :: undef :: (.agg #[.bool m.f0, .bool m.f1, .bool m.f2, .bool m.f3, .bool m.f4, .bool m.f5, .bool m.f6, .bool m.f7, .int .u8 m.s0, .int .u8 m.s1, .int .i64 m.sh]) :: (.int .u8 p) :: (.int .i64 n) :: undef :: undef :: undef :: undef :: undef :: undef :: undef :: undef :: undef :: undef :: undef :: undef :: undef :: undef :: undef :: undef :: undef :: undef :: undef :: undef :: undef :: undef :: undef :: undef :: undef :: undef :: undef :: undef :: undef :: undef :: undef :: undef :: undef :: undef :: undef :: undef :: undef :: undef :: undef :: undef :: undef :: undef :: undef :: undef :: undef :: undef :: undef :: undef :: undef :: undef :: undef :: undef :: undef :: undef :: undef :: undef :: undef :: undef :: undef :: undef :: undef :: undef :: undef :: undef :: undef :: undef :: undef :: undef :: undef :: undef :: undef :: undef :: undef :: undef :: undef :: undef :: undef :: undef :: undef :: undef :: undef :: undef :: undef :: undef :: undef :: undef :: undef :: undef :: undef :: undef :: undef :: undef :: undef :: undef :: undef :: []).toArray, defers := [] } W)) (Lib.hid ?_) (fun H0 => ?_)
  · intro  W hHeld
    clear GA HD HKN HDIF HE HB1 HB2 HB HR
    refine wpAnyH_ready (rs := [3, 8, 10, 11]) (by kernel_rfl) (by simp) ?_
    refine AllReadyH.cons rfl (fun K hK => ?_) (AllReadyH.cons rfl (fun K hK => ?_) (AllReadyH.cons rfl (fun K hK => ?_) (AllReadyH.cons rfl (fun K hK => ?_) AllReadyH.nil)))
    · go_simp
      have hb' := below_alloc W (.cells #[.int .i64 n] 3)
      have hs' := HKEEP.out _ _ hHeld hb'
      refine hK.out _ _ hs' (fun hH2 => ?_)
      exact H3.out W.heap.size (W.alloc (.cells #[.int .i64 n] 3)) hH2 (Out.made W [n] (by simp)).nums.2
    · go_simp
      have hb' := below_alloc W (.cells #[.int .i64 n] 3)
      have hs' := HKEEP.out _ _ hHeld hb'
      refine hK.out _ _ hs' (fun hH2 => ?_)
      exact H8.out W.heap.size (W.alloc (.cells #[.int .i64 n] 3)) hH2 (Out.made W [n] (by simp)).nums.2
    · go_simp
      have hb' := below_alloc W (.cells #[.bool false, .bool false, .bool false, .bool false, .bool false, .bool false, .bool false, .bool false, .int .u8 0, .int .u8 0, .int .i64 0] 24)
      have hs' := HKEEP.out _ _ hHeld hb'
      refine hK.out _ _ hs' (fun hH2 => ?_)
      exact H10.out W.heap.size (W.alloc (.cells #[.bool false, .bool false, .bool false, .bool false, .bool false, .bool false, .bool false, .bool false, .int .u8 0, .int .u8 0, .int .i64 0] 24)) hH2 (Md.laid W zero) (hHeld.2.2.2.2.2.2.2.2.2.2.2.out.1.size)
    · go_simp
      have hb' := below_alloc W (.cells #[.bool false, .bool false, .bool false, .bool false, .bool false, .bool false, .bool false, .bool false, .int .u8 0, .int .u8 0, .int .i64 0] 24)
      have hs' := HKEEP.out _ _ hHeld hb'
      refine hK.out _ _ hs' (fun hH2 => ?_)
      exact H11.out W.heap.size (W.alloc (.cells #[.bool false, .bool false, .bool false, .bool false, .bool false, .bool false, .bool false, .bool false, .int .u8 0, .int .u8 0, .int .i64 0] 24)) hH2 (Md.laid W zero) (hHeld.2.2.2.2.2.2.2.2.2.2.2.out.1.size)
  exact H0.out _ hHeld

theorem put_self (m : M) (j : Nat) (b : Bool) (h : m.get j = b) : m.put j b = m := by
  refine put_ext (fun i hi => ?_) (put_s0 _ _ _) (put_s1 _ _ _) (put_sh _ _ _)
  rw [put_get _ _ _ _ hi]
  split
  · rename_i e
    subst e
    exact h.symm
  · rfl
theorem put_none (m : M) (j : Nat) (b : Bool) (h : ¬ j < 8) : m.put j b = m := by
  refine put_ext (fun i hi => ?_) (put_s0 _ _ _) (put_s1 _ _ _) (put_sh _ _ _)
  rw [put_get _ _ _ _ hi, if_neg (by omega)]

theorem denoted_walk (m : M) (p n : Int) (w : World) (hT : Tb w) :
    Calls Tryd.prog 8 #[.agg #[.bool m.f0, .bool m.f1, .bool m.f2, .bool m.f3, .bool m.f4, .bool m.f5, .bool m.f6, .bool m.f7, .int .u8 m.s0, .int .u8 m.s1, .int .i64 m.sh], .int .u8 p, .int .i64 n] w fun e w' => e = .returned (.bool true) ∧ Below w.heap.size w w' := by
  refine denoted_main m (m.put (den p n) true) (m.put (den p n) false) (den p n) (decide (den p n < 8)) p n w hT rfl rfl rfl rfl ?_ (decide (m.put (den p n) true = m)) (decide (m.put (den p n) false = m)) ?_ rfl rfl ?_
  · intro i hi
    rw [put_get _ _ _ _ hi, put_get _ _ _ _ hi]
    by_cases h : den p n = i
    · rw [if_pos h, if_pos h, decide_eq_true h.symm]
      rfl
    · rw [if_neg h, if_neg h, decide_eq_false (fun e => h e.symm)]
      simp
  · by_cases h : den p n < 8
    · have hne : ¬ m.put (den p n) true = m.put (den p n) false := fun e => by
        have := congrArg (fun z => M.get z (den p n)) e
        simp only [put_get _ _ _ _ h, if_true] at this
        cases this
      rw [decide_eq_true h, decide_eq_false hne]
      rfl
    · rw [put_none _ _ _ h, put_none _ _ _ h, decide_eq_false h]
      simp
  · by_cases h : m.get (den p n) = true
    · exact .inl (decide_eq_true (put_self _ _ _ h))
    · exact .inr (decide_eq_true (put_self _ _ _ (by simpa using h)))

end Go.Proofs.YtgnkbcflkalhjaaDoor
