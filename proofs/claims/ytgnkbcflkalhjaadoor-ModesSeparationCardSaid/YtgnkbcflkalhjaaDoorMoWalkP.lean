/-
  The statement of layer 11 on what each function leaves as it was: the walk.
-/
import Derived.Test.YtgnkbcflkalhjaaDoorMoMem
import Derived.Deep.RegionHeld3
import Derived.Deep.DeepCutAuto
namespace Go.Proofs.YtgnkbcflkalhjaaDoor
open Go.RowKit Mo


theorem bareV (b0 b1 b2 b3 b4 b5 b6 b7 : Bool) (x y z : Int) (w : World) : Calls Tryd.prog 22 #[.agg #[.bool b0, .bool b1, .bool b2, .bool b3, .bool b4, .bool b5, .bool b6, .bool b7, .int .u8 x, .int .u8 y, .int .i64 z]] w fun e w' => e = .returned (.agg #[.bool b0, .bool b1, .bool b2, .bool b3, .bool b4, .bool b5, .bool b6, .bool b7, .int .u8 0, .int .u8 0, .int .i64 0]) ∧ Below w.heap.size w w' := bare_any ⟨b0, b1, b2, b3, b4, b5, b6, b7, x, y, z⟩ w

set_option maxHeartbeats 16000000 in
set_option maxRecDepth 100000 in
theorem separation_walk (m : M) (p : Int) (A : Option Addr) (n c : Nat) (l : List Int) (x : ByteArray) (cc i : Int) (w : World) (hN : Nums w w.heap.size A n l) (hT : Tb w) :
    Calls Tryd.prog 7 #[.agg #[.bool m.f0, .bool m.f1, .bool m.f2, .bool m.f3, .bool m.f4, .bool m.f5, .bool m.f6, .bool m.f7, .int .u8 m.s0, .int .u8 m.s1, .int .i64 m.sh], .int .u8 p, .slice A n c, .string x, .int .u8 cc, .int .i64 i] w fun e w' => e = .returned (.bool true) ∧ Below w.heap.size w w' := by
  have GA := Lib.hid (awake_at hT)
  have K0 := Lib.hid (Mm.start w m)
  by_cases hlt : 40 < (n : Int) ∨ 20 < (x.size : Int)
  · have key : 40 < (n : Int) ∨ (¬ 40 < (n : Int) ∧ 20 < (x.size : Int)) := by omega
    clear hN hT hlt
    rcases key with h1 | ⟨h1, h2⟩
    all_goals
      go_enter Tryd.func7, Tryd.ntmps7
      go_wp2_with fail
      refine (GA.out _ K0.out.1).mono ?_
      rintro e w1 ⟨rfl, b1⟩
      have B1 := Lib.hid (below_step K0.out.1 b1)
      clear b1
      go_wp2
      go_ret
      exact ⟨rfl, B1.out⟩
  · have h1 : ¬ 40 < (n : Int) := by omega
    have h2 : ¬ 20 < (x.size : Int) := by omega
    clear hlt
    obtain ⟨q, hq⟩ : ∃ q, (Int.tmod i 2 == 0) = q := ⟨_, rfl⟩
    obtain ⟨a, ha⟩ : ∃ a, set m p l q = a := ⟨_, rfl⟩
    obtain ⟨d, hd⟩ : ∃ d, desig m x cc = d := ⟨_, rfl⟩
    obtain ⟨s, hs⟩ : ∃ s, shift m i = s := ⟨_, rfl⟩
    have G1 := Lib.hid (set_at (c := c) m a p q (by omega) hN ha)
    have G3 := Lib.hid (fun U => desig_any m x cc U)
    have G4 := Lib.hid (fun U => shift_any m i U)
    rw [hd] at G3
    rw [hs] at G4
    have GM := Lib.hid (fun U => bare_any m U)
    have GD := Lib.hid (fun U => bare_any d U)
    have GS := Lib.hid (fun U => bare_any s U)
    have D0 : d.f0 = m.f0 ∧ d.f1 = m.f1 ∧ d.f2 = m.f2 ∧ d.f3 = m.f3 ∧ d.f4 = m.f4 ∧ d.f5 = m.f5 ∧ d.f6 = m.f6 ∧ d.f7 = m.f7 ∧ d.sh = m.sh := by
      rw [← hd]
      unfold desig
      split
      · split
        · exact ⟨rfl, rfl, rfl, rfl, rfl, rfl, rfl, rfl, rfl⟩
        · split <;> exact ⟨rfl, rfl, rfl, rfl, rfl, rfl, rfl, rfl, rfl⟩
      · exact ⟨rfl, rfl, rfl, rfl, rfl, rfl, rfl, rfl, rfl⟩
    have S0 : s.f0 = m.f0 ∧ s.f1 = m.f1 ∧ s.f2 = m.f2 ∧ s.f3 = m.f3 ∧ s.f4 = m.f4 ∧ s.f5 = m.f5 ∧ s.f6 = m.f6 ∧ s.f7 = m.f7 ∧ s.s0 = m.s0 ∧ s.s1 = m.s1 := by
      rw [← hs]
      unfold shift
      split <;> exact ⟨rfl, rfl, rfl, rfl, rfl, rfl, rfl, rfl, rfl, rfl⟩
    have A0 : a.s0 = m.s0 ∧ a.s1 = m.s1 ∧ a.sh = m.sh := by rw [← ha]; exact ⟨set_s0 _ _ _ _, set_s1 _ _ _ _, set_sh _ _ _ _⟩
    have HD := Lib.hid D0
    have HS := Lib.hid S0
    have HA := Lib.hid A0
    have W0 := Lib.hid K0.out.1
    obtain ⟨u0, u1, u2, u3, u4, u5, u6, u7, u8, u9, u10⟩ := (K0.out.at 0 rfl).all
    clear hN hT ha hd hs D0 S0 A0
    go_enter Tryd.func7, Tryd.ntmps7
    go_wp2_with fail
    clear u0 u1 u2 u3 u4 u5 u6 u7 u8 u9 u10 h1 h2
    generalize w.alloc (.cells #[.bool m.f0, .bool m.f1, .bool m.f2, .bool m.f3, .bool m.f4, .bool m.f5, .bool m.f6, .bool m.f7, .int .u8 m.s0, .int .u8 m.s1, .int .i64 m.sh] 24) = y0 at K0 W0 ⊢
    refine (G1.out _ W0.out).mono ?_
    rintro e w1 ⟨rfl, b1⟩
    have K1 := Lib.hid ((K0.out.below b1).more a)
    clear b1 W0 K0 G1 hq
    go_wp2_with fail
    generalize w1.alloc (.cells #[.bool a.f0, .bool a.f1, .bool a.f2, .bool a.f3, .bool a.f4, .bool a.f5, .bool a.f6, .bool a.f7, .int .u8 a.s0, .int .u8 a.s1, .int .i64 a.sh] 24) = y1 at K1 ⊢
    generalize w1.heap.size = k1 at K1 ⊢
    have B1 := Lib.hid K1.out.1
    have K2 := Lib.hid (show Mm y1 y1 [(w.heap.size, m), (k1, a)] from ⟨Below.refl _ _, K1.out.2⟩)
    have KL : Hid (∀ z ∈ [(w.heap.size, m), (k1, a)], z.1 < y1.heap.size) := Lib.hid (fun z hz => (K2.out.2 z hz).lt)
    go_cut [14, 15] (fun s14 s15 wx => ∃ k2 k3, s14 = .pointer (some ⟨k2, 0, none⟩) ∧ s15 = .pointer (some ⟨k3, 0, none⟩) ∧ Aside (Mm w wx [(w.heap.size, m), (k1, a), (k2, d), (k3, s)]))
    case first =>
      have key0 : ∀ U, Mm y1 U [(w.heap.size, m), (k1, a)] → (U.cell? ⟨w.heap.size, 0, none⟩ = some (.bool m.f0) ∧ U.cell? ⟨w.heap.size, 1, none⟩ = some (.bool m.f1) ∧ U.cell? ⟨w.heap.size, 2, none⟩ = some (.bool m.f2) ∧ U.cell? ⟨w.heap.size, 3, none⟩ = some (.bool m.f3) ∧ U.cell? ⟨w.heap.size, 4, none⟩ = some (.bool m.f4) ∧ U.cell? ⟨w.heap.size, 5, none⟩ = some (.bool m.f5) ∧ U.cell? ⟨w.heap.size, 6, none⟩ = some (.bool m.f6) ∧ U.cell? ⟨w.heap.size, 7, none⟩ = some (.bool m.f7) ∧ U.cell? ⟨w.heap.size, 8, none⟩ = some (.int .u8 m.s0) ∧ U.cell? ⟨w.heap.size, 9, none⟩ = some (.int .u8 m.s1) ∧ U.cell? ⟨w.heap.size, 10, none⟩ = some (.int .i64 m.sh) ∧ Aside (Mm y1 U [(w.heap.size, m), (k1, a)])) := fun U k => by
        obtain ⟨a0_0, a0_1, a0_2, a0_3, a0_4, a0_5, a0_6, a0_7, a0_8, a0_9, a0_10⟩ := (k.at 0 rfl).all
        exact ⟨a0_0, a0_1, a0_2, a0_3, a0_4, a0_5, a0_6, a0_7, a0_8, a0_9, a0_10, k⟩
      have HKEEP : Hid (∀ (U U' : World), (U.cell? ⟨w.heap.size, 0, none⟩ = some (.bool m.f0) ∧ U.cell? ⟨w.heap.size, 1, none⟩ = some (.bool m.f1) ∧ U.cell? ⟨w.heap.size, 2, none⟩ = some (.bool m.f2) ∧ U.cell? ⟨w.heap.size, 3, none⟩ = some (.bool m.f3) ∧ U.cell? ⟨w.heap.size, 4, none⟩ = some (.bool m.f4) ∧ U.cell? ⟨w.heap.size, 5, none⟩ = some (.bool m.f5) ∧ U.cell? ⟨w.heap.size, 6, none⟩ = some (.bool m.f6) ∧ U.cell? ⟨w.heap.size, 7, none⟩ = some (.bool m.f7) ∧ U.cell? ⟨w.heap.size, 8, none⟩ = some (.int .u8 m.s0) ∧ U.cell? ⟨w.heap.size, 9, none⟩ = some (.int .u8 m.s1) ∧ U.cell? ⟨w.heap.size, 10, none⟩ = some (.int .i64 m.sh) ∧ Aside (Mm y1 U [(w.heap.size, m), (k1, a)])) → Below U.heap.size U U' → (U'.cell? ⟨w.heap.size, 0, none⟩ = some (.bool m.f0) ∧ U'.cell? ⟨w.heap.size, 1, none⟩ = some (.bool m.f1) ∧ U'.cell? ⟨w.heap.size, 2, none⟩ = some (.bool m.f2) ∧ U'.cell? ⟨w.heap.size, 3, none⟩ = some (.bool m.f3) ∧ U'.cell? ⟨w.heap.size, 4, none⟩ = some (.bool m.f4) ∧ U'.cell? ⟨w.heap.size, 5, none⟩ = some (.bool m.f5) ∧ U'.cell? ⟨w.heap.size, 6, none⟩ = some (.bool m.f6) ∧ U'.cell? ⟨w.heap.size, 7, none⟩ = some (.bool m.f7) ∧ U'.cell? ⟨w.heap.size, 8, none⟩ = some (.int .u8 m.s0) ∧ U'.cell? ⟨w.heap.size, 9, none⟩ = some (.int .u8 m.s1) ∧ U'.cell? ⟨w.heap.size, 10, none⟩ = some (.int .i64 m.sh) ∧ Aside (Mm y1 U' [(w.heap.size, m), (k1, a)]))) := Lib.hid (fun U U' hs hu => key0 U' (hs.2.2.2.2.2.2.2.2.2.2.2.out.below hu))
      have hS := key0 y1.drew (K2.out.below (Below.refl _ _).drew)
      clear key0
      clear K1 K2 GA GM GD GS HD HS HA
      refine wp_region_held_drew (S := fun U => U.cell? ⟨w.heap.size, 0, none⟩ = some (.bool m.f0) ∧ U.cell? ⟨w.heap.size, 1, none⟩ = some (.bool m.f1) ∧ U.cell? ⟨w.heap.size, 2, none⟩ = some (.bool m.f2) ∧ U.cell? ⟨w.heap.size, 3, none⟩ = some (.bool m.f3) ∧ U.cell? ⟨w.heap.size, 4, none⟩ = some (.bool m.f4) ∧ U.cell? ⟨w.heap.size, 5, none⟩ = some (.bool m.f5) ∧ U.cell? ⟨w.heap.size, 6, none⟩ = some (.bool m.f6) ∧ U.cell? ⟨w.heap.size, 7, none⟩ = some (.bool m.f7) ∧ U.cell? ⟨w.heap.size, 8, none⟩ = some (.int .u8 m.s0) ∧ U.cell? ⟨w.heap.size, 9, none⟩ = some (.int .u8 m.s1) ∧ U.cell? ⟨w.heap.size, 10, none⟩ = some (.int .i64 m.sh) ∧ Aside (Mm y1 U [(w.heap.size, m), (k1, a)])) (by kernel_rfl) hS (fun hHeld => ?_)
      clear hS
      refine wpAnyH_take (i := 0) (v := ?_) rfl (by kernel_rfl) (by kernel_rfl) (by kernel_rfl) (fun _ _ _ h => h) (Or.inl ⟨by rfl, ?_⟩) (by assumption) ?_
      rotate_left
      · (intro W hSw; (try dsimp only at hSw); go_simp; try with_reducible rfl)
      simp only [Act.put, List.getElem_toArray, List.getElem_cons_zero, List.setIfInBounds_toArray, List.set_cons_zero, List.set_cons_succ]
      refine wpAnyH_take (i := 1) (v := ?_) rfl (by kernel_rfl) (by kernel_rfl) (by kernel_rfl) (fun _ _ _ h => h) (Or.inl ⟨by rfl, ?_⟩) (by assumption) ?_
      rotate_left
      · (intro W hSw; (try dsimp only at hSw); go_simp; try with_reducible rfl)
      simp only [Act.put, List.getElem_toArray, List.getElem_cons_succ, List.getElem_cons_zero, List.setIfInBounds_toArray, List.set_cons_zero, List.set_cons_succ]
      refine wpAnyH_take (i := 2) (v := ?_) rfl (by kernel_rfl) (by kernel_rfl) (by kernel_rfl) (fun _ _ _ h => h) (Or.inl ⟨by rfl, ?_⟩) (by assumption) ?_
      rotate_left
      · (intro W hSw; (try dsimp only at hSw); go_simp; try with_reducible rfl)
      simp only [Act.put, List.getElem_toArray, List.getElem_cons_succ, List.getElem_cons_zero, List.setIfInBounds_toArray, List.set_cons_zero, List.set_cons_succ]
      refine wpAnyH_take (i := 4) (v := ?_) rfl (by kernel_rfl) (by kernel_rfl) (by kernel_rfl) (fun _ _ _ h => h) (Or.inl ⟨by rfl, ?_⟩) (by assumption) ?_
      rotate_left
      · (intro W hSw; (try dsimp only at hSw); go_simp; try with_reducible rfl)
      simp only [Act.put, List.getElem_toArray, List.getElem_cons_succ, List.getElem_cons_zero, List.setIfInBounds_toArray, List.set_cons_zero, List.set_cons_succ]
      refine wpAnyH_take (i := 5) (v := ?_) rfl (by kernel_rfl) (by kernel_rfl) (by kernel_rfl) (fun _ _ _ h => h) (Or.inl ⟨by rfl, ?_⟩) (by assumption) ?_
      rotate_left
      · (intro W hSw; (try dsimp only at hSw); go_simp; try with_reducible rfl)
      simp only [Act.put, List.getElem_toArray, List.getElem_cons_succ, List.getElem_cons_zero, List.setIfInBounds_toArray, List.set_cons_zero, List.set_cons_succ]
      have HR : Hid (∀ (U : World) (k : Nat) (cs : Array Value), y1.heap.size ≤ k → (U.cell? ⟨w.heap.size, 0, none⟩ = some (.bool m.f0) ∧ U.cell? ⟨w.heap.size, 1, none⟩ = some (.bool m.f1) ∧ U.cell? ⟨w.heap.size, 2, none⟩ = some (.bool m.f2) ∧ U.cell? ⟨w.heap.size, 3, none⟩ = some (.bool m.f3) ∧ U.cell? ⟨w.heap.size, 4, none⟩ = some (.bool m.f4) ∧ U.cell? ⟨w.heap.size, 5, none⟩ = some (.bool m.f5) ∧ U.cell? ⟨w.heap.size, 6, none⟩ = some (.bool m.f6) ∧ U.cell? ⟨w.heap.size, 7, none⟩ = some (.bool m.f7) ∧ U.cell? ⟨w.heap.size, 8, none⟩ = some (.int .u8 m.s0) ∧ U.cell? ⟨w.heap.size, 9, none⟩ = some (.int .u8 m.s1) ∧ U.cell? ⟨w.heap.size, 10, none⟩ = some (.int .i64 m.sh) ∧ Aside (Mm y1 U [(w.heap.size, m), (k1, a)])) → ((U.setRow k cs).cell? ⟨w.heap.size, 0, none⟩ = some (.bool m.f0) ∧ (U.setRow k cs).cell? ⟨w.heap.size, 1, none⟩ = some (.bool m.f1) ∧ (U.setRow k cs).cell? ⟨w.heap.size, 2, none⟩ = some (.bool m.f2) ∧ (U.setRow k cs).cell? ⟨w.heap.size, 3, none⟩ = some (.bool m.f3) ∧ (U.setRow k cs).cell? ⟨w.heap.size, 4, none⟩ = some (.bool m.f4) ∧ (U.setRow k cs).cell? ⟨w.heap.size, 5, none⟩ = some (.bool m.f5) ∧ (U.setRow k cs).cell? ⟨w.heap.size, 6, none⟩ = some (.bool m.f6) ∧ (U.setRow k cs).cell? ⟨w.heap.size, 7, none⟩ = some (.bool m.f7) ∧ (U.setRow k cs).cell? ⟨w.heap.size, 8, none⟩ = some (.int .u8 m.s0) ∧ (U.setRow k cs).cell? ⟨w.heap.size, 9, none⟩ = some (.int .u8 m.s1) ∧ (U.setRow k cs).cell? ⟨w.heap.size, 10, none⟩ = some (.int .i64 m.sh) ∧ Aside (Mm y1 (U.setRow k cs) [(w.heap.size, m), (k1, a)]))) := Lib.hid (fun U k cs hk hs => by
        have h := hs.2.2.2.2.2.2.2.2.2.2.2.out
        have h' : Mm y1 (U.setRow k cs) [(w.heap.size, m), (k1, a)] := ⟨below_setRow h.1 hk _, fun z hz => (h.2 z hz).rowOther (by have := KL.out z hz; omega) _⟩
        obtain ⟨a0, a1, a2, a3, a4, a5, a6, a7, a8, a9, a10⟩ := (h'.at 0 rfl).all
        exact ⟨a0, a1, a2, a3, a4, a5, a6, a7, a8, a9, a10, h'⟩)
      have hS2 : y1.drew.cell? ⟨w.heap.size, 0, none⟩ = some (.bool m.f0) ∧ y1.drew.cell? ⟨w.heap.size, 1, none⟩ = some (.bool m.f1) ∧ y1.drew.cell? ⟨w.heap.size, 2, none⟩ = some (.bool m.f2) ∧ y1.drew.cell? ⟨w.heap.size, 3, none⟩ = some (.bool m.f3) ∧ y1.drew.cell? ⟨w.heap.size, 4, none⟩ = some (.bool m.f4) ∧ y1.drew.cell? ⟨w.heap.size, 5, none⟩ = some (.bool m.f5) ∧ y1.drew.cell? ⟨w.heap.size, 6, none⟩ = some (.bool m.f6) ∧ y1.drew.cell? ⟨w.heap.size, 7, none⟩ = some (.bool m.f7) ∧ y1.drew.cell? ⟨w.heap.size, 8, none⟩ = some (.int .u8 m.s0) ∧ y1.drew.cell? ⟨w.heap.size, 9, none⟩ = some (.int .u8 m.s1) ∧ y1.drew.cell? ⟨w.heap.size, 10, none⟩ = some (.int .i64 m.sh) ∧ Aside (Mm y1 y1.drew [(w.heap.size, m), (k1, a)]) := hHeld
      clear hHeld
      generalize y1.drew = yd at hS2 ⊢
      have hHeld := hS2
      clear hS2
      refine wpAnyH_ready (rs := [3, 7, 8]) (by kernel_rfl) (by simp) ?_
      refine AllReadyH.cons rfl (fun K hK => ?_) (AllReadyH.cons rfl (fun K hK => ?_) (AllReadyH.cons rfl (fun K hK => ?_) AllReadyH.nil))
      · go_simp
        (with_reducible refine (G3.out yd).mono ?_)
        rintro e w1 ⟨rfl, hb'⟩
        have hs' := HKEEP.out _ _ hHeld hb'
        clear hHeld hb'
        refine hK.out _ _ hs' (fun hHeld => ?_)
        clear hK K hs'
        refine wpAnyH_ready (rs := [6, 7, 8]) (by kernel_rfl) (by simp) ?_
        refine AllReadyH.cons rfl (fun K hK => ?_) (AllReadyH.cons rfl (fun K hK => ?_) (AllReadyH.cons rfl (fun K hK => ?_) AllReadyH.nil))
        · go_simp
          (with_reducible refine (G4.out w1).mono ?_)
          rintro e w2 ⟨rfl, hb'⟩
          have hs' := HKEEP.out _ _ hHeld hb'
          clear hHeld hb'
          refine hK.out _ _ hs' (fun hHeld => ?_)
          clear hK K hs'
          refine wpAnyH_ready (rs := [7, 8]) (by kernel_rfl) (by simp) ?_
          refine AllReadyH.cons rfl (fun K hK => ?_) (AllReadyH.cons rfl (fun K hK => ?_) AllReadyH.nil)
          · go_simp
            have hb' := below_alloc (w2) (.cells #[.bool false, .bool false, .bool false, .bool false, .bool false, .bool false, .bool false, .bool false, .int .u8 0, .int .u8 0, .int .i64 0] 24)
            have hs' := HKEEP.out _ _ hHeld hb'
            have hsz : y1.heap.size ≤ (w2).heap.size := hHeld.2.2.2.2.2.2.2.2.2.2.2.out.1.size
            have Z3 : Hid (Md (w2.alloc (.cells #[.bool false, .bool false, .bool false, .bool false, .bool false, .bool false, .bool false, .bool false, .int .u8 0, .int .u8 0, .int .i64 0] 24)) (w2).heap.size zero) := Lib.hid (Md.laid _ zero)
            clear hHeld hb'
            have L6 := Lib.hid hsz
            clear hsz
            generalize w2.alloc (.cells #[.bool false, .bool false, .bool false, .bool false, .bool false, .bool false, .bool false, .bool false, .int .u8 0, .int .u8 0, .int .i64 0] 24) = w5 at hs' Z3 ⊢
            generalize (w2).heap.size = k4 at L6 Z3 ⊢
            refine hK.out _ _ hs' (fun hHeld => ?_)
            clear hK K hs'
            refine wpAnyH_ready (rs := [8]) (by kernel_rfl) (by simp) ?_
            refine AllReadyH.cons rfl (fun K hK => ?_) AllReadyH.nil
            go_simp
            have hb' := below_alloc (w5) (.cells #[.bool false, .bool false, .bool false, .bool false, .bool false, .bool false, .bool false, .bool false, .int .u8 0, .int .u8 0, .int .i64 0] 24)
            have hs' := HKEEP.out _ _ hHeld hb'
            have Z7 := Lib.hid (Z3.out.below hb')
            have hsz : y1.heap.size ≤ (w5).heap.size := hHeld.2.2.2.2.2.2.2.2.2.2.2.out.1.size
            have Z8 : Hid (Md (w5.alloc (.cells #[.bool false, .bool false, .bool false, .bool false, .bool false, .bool false, .bool false, .bool false, .int .u8 0, .int .u8 0, .int .i64 0] 24)) (w5).heap.size zero) := Lib.hid (Md.laid _ zero)
            have N11 : Hid (k4 ≠ (w5).heap.size) := Lib.hid (by have := Z3.out.lt; omega)
            clear hHeld hb' Z3
            have L12 := Lib.hid hsz
            clear hsz
            generalize w5.alloc (.cells #[.bool false, .bool false, .bool false, .bool false, .bool false, .bool false, .bool false, .bool false, .int .u8 0, .int .u8 0, .int .i64 0] 24) = w10 at hs' Z7 Z8 ⊢
            generalize (w5).heap.size = k9 at L12 Z8 N11 ⊢
            refine hK.out _ _ hs' (fun hHeld => ?_)
            clear hK K hs'
            refine wpAnyH_ready (rs := [9]) (by kernel_rfl) (by simp) ?_
            refine AllReadyH.cons rfl (fun K hK => ?_) AllReadyH.nil
            rw [if_pos (by kernel_rfl)]
            refine wp_store_row 24 _ _ rfl k4 #[.bool d.f0, .bool d.f1, .bool d.f2, .bool d.f3, .bool d.f4, .bool d.f5, .bool d.f6, .bool d.f7, .int .u8 d.s0, .int .u8 d.s1, .int .i64 d.sh] rfl rfl 24 _ Z7.out (by kernel_rfl) rfl (one_cells d) ?_
            have KE := Lib.hid (Mm.two (hHeld.2.2.2.2.2.2.2.2.2.2.2.out) KL.out k4 k9 d s Z7.out Z8.out N11.out L6.out L12.out)
            have hs' := HR.out _ k4 #[.bool d.f0, .bool d.f1, .bool d.f2, .bool d.f3, .bool d.f4, .bool d.f5, .bool d.f6, .bool d.f7, .int .u8 d.s0, .int .u8 d.s1, .int .i64 d.sh] L6.out hHeld
            refine hK.out _ _ hs' (fun hHeld => ?_)
            clear hK K hs'
            refine wpAnyH_ready (rs := [10]) (by kernel_rfl) (by simp) ?_
            refine AllReadyH.cons rfl (fun K hK => ?_) AllReadyH.nil
            rw [if_pos (by kernel_rfl)]
            refine wp_store_row 24 _ _ rfl k9 #[.bool s.f0, .bool s.f1, .bool s.f2, .bool s.f3, .bool s.f4, .bool s.f5, .bool s.f6, .bool s.f7, .int .u8 s.s0, .int .u8 s.s1, .int .i64 s.sh] rfl rfl 24 _ ((Z8.out).rowOther (Ne.symm N11.out) _) (by kernel_rfl) rfl (one_cells s) ?_
            have hs' := HR.out _ k9 #[.bool s.f0, .bool s.f1, .bool s.f2, .bool s.f3, .bool s.f4, .bool s.f5, .bool s.f6, .bool s.f7, .int .u8 s.s0, .int .u8 s.s1, .int .i64 s.sh] L12.out hHeld
            refine hK.out _ _ hs' (fun hHeld => ?_)
            clear hK K hs'
            refine wpAnyH_done (by kernel_rfl) ?_ _
            clear hHeld
            go_wp2
            go_meet
            exact ⟨k4, k9, rfl, rfl, KE.out.rebase B1.out⟩
          · go_simp
            have hb' := below_alloc (w2) (.cells #[.bool false, .bool false, .bool false, .bool false, .bool false, .bool false, .bool false, .bool false, .int .u8 0, .int .u8 0, .int .i64 0] 24)
            have hs' := HKEEP.out _ _ hHeld hb'
            have hsz : y1.heap.size ≤ (w2).heap.size := hHeld.2.2.2.2.2.2.2.2.2.2.2.out.1.size
            have Z13 : Hid (Md (w2.alloc (.cells #[.bool false, .bool false, .bool false, .bool false, .bool false, .bool false, .bool false, .bool false, .int .u8 0, .int .u8 0, .int .i64 0] 24)) (w2).heap.size zero) := Lib.hid (Md.laid _ zero)
            clear hHeld hb'
            have L16 := Lib.hid hsz
            clear hsz
            generalize w2.alloc (.cells #[.bool false, .bool false, .bool false, .bool false, .bool false, .bool false, .bool false, .bool false, .int .u8 0, .int .u8 0, .int .i64 0] 24) = w15 at hs' Z13 ⊢
            generalize (w2).heap.size = k14 at L16 Z13 ⊢
            refine hK.out _ _ hs' (fun hHeld => ?_)
            clear hK K hs'
            refine wpAnyH_ready (rs := [7]) (by kernel_rfl) (by simp) ?_
            refine AllReadyH.cons rfl (fun K hK => ?_) AllReadyH.nil
            go_simp
            have hb' := below_alloc (w15) (.cells #[.bool false, .bool false, .bool false, .bool false, .bool false, .bool false, .bool false, .bool false, .int .u8 0, .int .u8 0, .int .i64 0] 24)
            have hs' := HKEEP.out _ _ hHeld hb'
            have Z17 := Lib.hid (Z13.out.below hb')
            have hsz : y1.heap.size ≤ (w15).heap.size := hHeld.2.2.2.2.2.2.2.2.2.2.2.out.1.size
            have Z18 : Hid (Md (w15.alloc (.cells #[.bool false, .bool false, .bool false, .bool false, .bool false, .bool false, .bool false, .bool false, .int .u8 0, .int .u8 0, .int .i64 0] 24)) (w15).heap.size zero) := Lib.hid (Md.laid _ zero)
            have N21 : Hid (k14 ≠ (w15).heap.size) := Lib.hid (by have := Z13.out.lt; omega)
            clear hHeld hb' Z13
            have L22 := Lib.hid hsz
            clear hsz
            generalize w15.alloc (.cells #[.bool false, .bool false, .bool false, .bool false, .bool false, .bool false, .bool false, .bool false, .int .u8 0, .int .u8 0, .int .i64 0] 24) = w20 at hs' Z17 Z18 ⊢
            generalize (w15).heap.size = k19 at L22 Z18 N21 ⊢
            refine hK.out _ _ hs' (fun hHeld => ?_)
            clear hK K hs'
            refine wpAnyH_ready (rs := [9]) (by kernel_rfl) (by simp) ?_
            refine AllReadyH.cons rfl (fun K hK => ?_) AllReadyH.nil
            rw [if_pos (by kernel_rfl)]
            refine wp_store_row 24 _ _ rfl k19 #[.bool d.f0, .bool d.f1, .bool d.f2, .bool d.f3, .bool d.f4, .bool d.f5, .bool d.f6, .bool d.f7, .int .u8 d.s0, .int .u8 d.s1, .int .i64 d.sh] rfl rfl 24 _ Z18.out (by kernel_rfl) rfl (one_cells d) ?_
            have KE := Lib.hid (Mm.two (hHeld.2.2.2.2.2.2.2.2.2.2.2.out) KL.out k19 k14 d s Z18.out Z17.out (Ne.symm N21.out) L22.out L16.out)
            have hs' := HR.out _ k19 #[.bool d.f0, .bool d.f1, .bool d.f2, .bool d.f3, .bool d.f4, .bool d.f5, .bool d.f6, .bool d.f7, .int .u8 d.s0, .int .u8 d.s1, .int .i64 d.sh] L22.out hHeld
            refine hK.out _ _ hs' (fun hHeld => ?_)
            clear hK K hs'
            refine wpAnyH_ready (rs := [10]) (by kernel_rfl) (by simp) ?_
            refine AllReadyH.cons rfl (fun K hK => ?_) AllReadyH.nil
            rw [if_pos (by kernel_rfl)]
            refine wp_store_row 24 _ _ rfl k14 #[.bool s.f0, .bool s.f1, .bool s.f2, .bool s.f3, .bool s.f4, .bool s.f5, .bool s.f6, .bool s.f7, .int .u8 s.s0, .int .u8 s.s1, .int .i64 s.sh] rfl rfl 24 _ ((Z17.out).rowOther (Ne.symm (Ne.symm N21.out)) _) (by kernel_rfl) rfl (one_cells s) ?_
            have hs' := HR.out _ k14 #[.bool s.f0, .bool s.f1, .bool s.f2, .bool s.f3, .bool s.f4, .bool s.f5, .bool s.f6, .bool s.f7, .int .u8 s.s0, .int .u8 s.s1, .int .i64 s.sh] L16.out hHeld
            refine hK.out _ _ hs' (fun hHeld => ?_)
            clear hK K hs'
            refine wpAnyH_done (by kernel_rfl) ?_ _
            clear hHeld
            go_wp2
            go_meet
            exact ⟨k19, k14, rfl, rfl, KE.out.rebase B1.out⟩
        · go_simp
          have hb' := below_alloc (w1) (.cells #[.bool false, .bool false, .bool false, .bool false, .bool false, .bool false, .bool false, .bool false, .int .u8 0, .int .u8 0, .int .i64 0] 24)
          have hs' := HKEEP.out _ _ hHeld hb'
          have hsz : y1.heap.size ≤ (w1).heap.size := hHeld.2.2.2.2.2.2.2.2.2.2.2.out.1.size
          have Z23 : Hid (Md (w1.alloc (.cells #[.bool false, .bool false, .bool false, .bool false, .bool false, .bool false, .bool false, .bool false, .int .u8 0, .int .u8 0, .int .i64 0] 24)) (w1).heap.size zero) := Lib.hid (Md.laid _ zero)
          clear hHeld hb'
          have L26 := Lib.hid hsz
          clear hsz
          generalize w1.alloc (.cells #[.bool false, .bool false, .bool false, .bool false, .bool false, .bool false, .bool false, .bool false, .int .u8 0, .int .u8 0, .int .i64 0] 24) = w25 at hs' Z23 ⊢
          generalize (w1).heap.size = k24 at L26 Z23 ⊢
          refine hK.out _ _ hs' (fun hHeld => ?_)
          clear hK K hs'
          refine wpAnyH_ready (rs := [6, 8]) (by kernel_rfl) (by simp) ?_
          refine AllReadyH.cons rfl (fun K hK => ?_) (AllReadyH.cons rfl (fun K hK => ?_) AllReadyH.nil)
          · go_simp
            (with_reducible refine (G4.out w25).mono ?_)
            rintro e w27 ⟨rfl, hb'⟩
            have hs' := HKEEP.out _ _ hHeld hb'
            have Z28 := Lib.hid (Z23.out.below hb')
            clear hHeld hb' Z23
            refine hK.out _ _ hs' (fun hHeld => ?_)
            clear hK K hs'
            refine wpAnyH_ready (rs := [8]) (by kernel_rfl) (by simp) ?_
            refine AllReadyH.cons rfl (fun K hK => ?_) AllReadyH.nil
            go_simp
            have hb' := below_alloc (w27) (.cells #[.bool false, .bool false, .bool false, .bool false, .bool false, .bool false, .bool false, .bool false, .int .u8 0, .int .u8 0, .int .i64 0] 24)
            have hs' := HKEEP.out _ _ hHeld hb'
            have Z29 := Lib.hid (Z28.out.below hb')
            have hsz : y1.heap.size ≤ (w27).heap.size := hHeld.2.2.2.2.2.2.2.2.2.2.2.out.1.size
            have Z30 : Hid (Md (w27.alloc (.cells #[.bool false, .bool false, .bool false, .bool false, .bool false, .bool false, .bool false, .bool false, .int .u8 0, .int .u8 0, .int .i64 0] 24)) (w27).heap.size zero) := Lib.hid (Md.laid _ zero)
            have N33 : Hid (k24 ≠ (w27).heap.size) := Lib.hid (by have := Z28.out.lt; omega)
            clear hHeld hb' Z28
            have L34 := Lib.hid hsz
            clear hsz
            generalize w27.alloc (.cells #[.bool false, .bool false, .bool false, .bool false, .bool false, .bool false, .bool false, .bool false, .int .u8 0, .int .u8 0, .int .i64 0] 24) = w32 at hs' Z29 Z30 ⊢
            generalize (w27).heap.size = k31 at L34 Z30 N33 ⊢
            refine hK.out _ _ hs' (fun hHeld => ?_)
            clear hK K hs'
            refine wpAnyH_ready (rs := [9]) (by kernel_rfl) (by simp) ?_
            refine AllReadyH.cons rfl (fun K hK => ?_) AllReadyH.nil
            rw [if_pos (by kernel_rfl)]
            refine wp_store_row 24 _ _ rfl k24 #[.bool d.f0, .bool d.f1, .bool d.f2, .bool d.f3, .bool d.f4, .bool d.f5, .bool d.f6, .bool d.f7, .int .u8 d.s0, .int .u8 d.s1, .int .i64 d.sh] rfl rfl 24 _ Z29.out (by kernel_rfl) rfl (one_cells d) ?_
            have KE := Lib.hid (Mm.two (hHeld.2.2.2.2.2.2.2.2.2.2.2.out) KL.out k24 k31 d s Z29.out Z30.out N33.out L26.out L34.out)
            have hs' := HR.out _ k24 #[.bool d.f0, .bool d.f1, .bool d.f2, .bool d.f3, .bool d.f4, .bool d.f5, .bool d.f6, .bool d.f7, .int .u8 d.s0, .int .u8 d.s1, .int .i64 d.sh] L26.out hHeld
            refine hK.out _ _ hs' (fun hHeld => ?_)
            clear hK K hs'
            refine wpAnyH_ready (rs := [10]) (by kernel_rfl) (by simp) ?_
            refine AllReadyH.cons rfl (fun K hK => ?_) AllReadyH.nil
            rw [if_pos (by kernel_rfl)]
            refine wp_store_row 24 _ _ rfl k31 #[.bool s.f0, .bool s.f1, .bool s.f2, .bool s.f3, .bool s.f4, .bool s.f5, .bool s.f6, .bool s.f7, .int .u8 s.s0, .int .u8 s.s1, .int .i64 s.sh] rfl rfl 24 _ ((Z30.out).rowOther (Ne.symm N33.out) _) (by kernel_rfl) rfl (one_cells s) ?_
            have hs' := HR.out _ k31 #[.bool s.f0, .bool s.f1, .bool s.f2, .bool s.f3, .bool s.f4, .bool s.f5, .bool s.f6, .bool s.f7, .int .u8 s.s0, .int .u8 s.s1, .int .i64 s.sh] L34.out hHeld
            refine hK.out _ _ hs' (fun hHeld => ?_)
            clear hK K hs'
            refine wpAnyH_done (by kernel_rfl) ?_ _
            clear hHeld
            go_wp2
            go_meet
            exact ⟨k24, k31, rfl, rfl, KE.out.rebase B1.out⟩
          · go_simp
            have hb' := below_alloc (w25) (.cells #[.bool false, .bool false, .bool false, .bool false, .bool false, .bool false, .bool false, .bool false, .int .u8 0, .int .u8 0, .int .i64 0] 24)
            have hs' := HKEEP.out _ _ hHeld hb'
            have Z35 := Lib.hid (Z23.out.below hb')
            have hsz : y1.heap.size ≤ (w25).heap.size := hHeld.2.2.2.2.2.2.2.2.2.2.2.out.1.size
            have Z36 : Hid (Md (w25.alloc (.cells #[.bool false, .bool false, .bool false, .bool false, .bool false, .bool false, .bool false, .bool false, .int .u8 0, .int .u8 0, .int .i64 0] 24)) (w25).heap.size zero) := Lib.hid (Md.laid _ zero)
            have N39 : Hid (k24 ≠ (w25).heap.size) := Lib.hid (by have := Z23.out.lt; omega)
            clear hHeld hb' Z23
            have L40 := Lib.hid hsz
            clear hsz
            generalize w25.alloc (.cells #[.bool false, .bool false, .bool false, .bool false, .bool false, .bool false, .bool false, .bool false, .int .u8 0, .int .u8 0, .int .i64 0] 24) = w38 at hs' Z35 Z36 ⊢
            generalize (w25).heap.size = k37 at L40 Z36 N39 ⊢
            refine hK.out _ _ hs' (fun hHeld => ?_)
            clear hK K hs'
            refine wpAnyH_ready (rs := [6]) (by kernel_rfl) (by simp) ?_
            refine AllReadyH.cons rfl (fun K hK => ?_) AllReadyH.nil
            go_simp
            (with_reducible refine (G4.out w38).mono ?_)
            rintro e w41 ⟨rfl, hb'⟩
            have hs' := HKEEP.out _ _ hHeld hb'
            have Z42 := Lib.hid (Z35.out.below hb')
            have Z43 := Lib.hid (Z36.out.below hb')
            clear hHeld hb' Z35 Z36
            refine hK.out _ _ hs' (fun hHeld => ?_)
            clear hK K hs'
            refine wpAnyH_ready (rs := [9]) (by kernel_rfl) (by simp) ?_
            refine AllReadyH.cons rfl (fun K hK => ?_) AllReadyH.nil
            rw [if_pos (by kernel_rfl)]
            refine wp_store_row 24 _ _ rfl k24 #[.bool d.f0, .bool d.f1, .bool d.f2, .bool d.f3, .bool d.f4, .bool d.f5, .bool d.f6, .bool d.f7, .int .u8 d.s0, .int .u8 d.s1, .int .i64 d.sh] rfl rfl 24 _ Z42.out (by kernel_rfl) rfl (one_cells d) ?_
            have KE := Lib.hid (Mm.two (hHeld.2.2.2.2.2.2.2.2.2.2.2.out) KL.out k24 k37 d s Z42.out Z43.out N39.out L26.out L40.out)
            have hs' := HR.out _ k24 #[.bool d.f0, .bool d.f1, .bool d.f2, .bool d.f3, .bool d.f4, .bool d.f5, .bool d.f6, .bool d.f7, .int .u8 d.s0, .int .u8 d.s1, .int .i64 d.sh] L26.out hHeld
            refine hK.out _ _ hs' (fun hHeld => ?_)
            clear hK K hs'
            refine wpAnyH_ready (rs := [10]) (by kernel_rfl) (by simp) ?_
            refine AllReadyH.cons rfl (fun K hK => ?_) AllReadyH.nil
            rw [if_pos (by kernel_rfl)]
            refine wp_store_row 24 _ _ rfl k37 #[.bool s.f0, .bool s.f1, .bool s.f2, .bool s.f3, .bool s.f4, .bool s.f5, .bool s.f6, .bool s.f7, .int .u8 s.s0, .int .u8 s.s1, .int .i64 s.sh] rfl rfl 24 _ ((Z43.out).rowOther (Ne.symm N39.out) _) (by kernel_rfl) rfl (one_cells s) ?_
            have hs' := HR.out _ k37 #[.bool s.f0, .bool s.f1, .bool s.f2, .bool s.f3, .bool s.f4, .bool s.f5, .bool s.f6, .bool s.f7, .int .u8 s.s0, .int .u8 s.s1, .int .i64 s.sh] L40.out hHeld
            refine hK.out _ _ hs' (fun hHeld => ?_)
            clear hK K hs'
            refine wpAnyH_done (by kernel_rfl) ?_ _
            clear hHeld
            go_wp2
            go_meet
            exact ⟨k24, k37, rfl, rfl, KE.out.rebase B1.out⟩
        · go_simp
          have hb' := below_alloc (w1) (.cells #[.bool false, .bool false, .bool false, .bool false, .bool false, .bool false, .bool false, .bool false, .int .u8 0, .int .u8 0, .int .i64 0] 24)
          have hs' := HKEEP.out _ _ hHeld hb'
          have hsz : y1.heap.size ≤ (w1).heap.size := hHeld.2.2.2.2.2.2.2.2.2.2.2.out.1.size
          have Z44 : Hid (Md (w1.alloc (.cells #[.bool false, .bool false, .bool false, .bool false, .bool false, .bool false, .bool false, .bool false, .int .u8 0, .int .u8 0, .int .i64 0] 24)) (w1).heap.size zero) := Lib.hid (Md.laid _ zero)
          clear hHeld hb'
          have L47 := Lib.hid hsz
          clear hsz
          generalize w1.alloc (.cells #[.bool false, .bool false, .bool false, .bool false, .bool false, .bool false, .bool false, .bool false, .int .u8 0, .int .u8 0, .int .i64 0] 24) = w46 at hs' Z44 ⊢
          generalize (w1).heap.size = k45 at L47 Z44 ⊢
          refine hK.out _ _ hs' (fun hHeld => ?_)
          clear hK K hs'
          refine wpAnyH_ready (rs := [6, 7]) (by kernel_rfl) (by simp) ?_
          refine AllReadyH.cons rfl (fun K hK => ?_) (AllReadyH.cons rfl (fun K hK => ?_) AllReadyH.nil)
          · go_simp
            (with_reducible refine (G4.out w46).mono ?_)
            rintro e w48 ⟨rfl, hb'⟩
            have hs' := HKEEP.out _ _ hHeld hb'
            have Z49 := Lib.hid (Z44.out.below hb')
            clear hHeld hb' Z44
            refine hK.out _ _ hs' (fun hHeld => ?_)
            clear hK K hs'
            refine wpAnyH_ready (rs := [7]) (by kernel_rfl) (by simp) ?_
            refine AllReadyH.cons rfl (fun K hK => ?_) AllReadyH.nil
            go_simp
            have hb' := below_alloc (w48) (.cells #[.bool false, .bool false, .bool false, .bool false, .bool false, .bool false, .bool false, .bool false, .int .u8 0, .int .u8 0, .int .i64 0] 24)
            have hs' := HKEEP.out _ _ hHeld hb'
            have Z50 := Lib.hid (Z49.out.below hb')
            have hsz : y1.heap.size ≤ (w48).heap.size := hHeld.2.2.2.2.2.2.2.2.2.2.2.out.1.size
            have Z51 : Hid (Md (w48.alloc (.cells #[.bool false, .bool false, .bool false, .bool false, .bool false, .bool false, .bool false, .bool false, .int .u8 0, .int .u8 0, .int .i64 0] 24)) (w48).heap.size zero) := Lib.hid (Md.laid _ zero)
            have N54 : Hid (k45 ≠ (w48).heap.size) := Lib.hid (by have := Z49.out.lt; omega)
            clear hHeld hb' Z49
            have L55 := Lib.hid hsz
            clear hsz
            generalize w48.alloc (.cells #[.bool false, .bool false, .bool false, .bool false, .bool false, .bool false, .bool false, .bool false, .int .u8 0, .int .u8 0, .int .i64 0] 24) = w53 at hs' Z50 Z51 ⊢
            generalize (w48).heap.size = k52 at L55 Z51 N54 ⊢
            refine hK.out _ _ hs' (fun hHeld => ?_)
            clear hK K hs'
            refine wpAnyH_ready (rs := [9]) (by kernel_rfl) (by simp) ?_
            refine AllReadyH.cons rfl (fun K hK => ?_) AllReadyH.nil
            rw [if_pos (by kernel_rfl)]
            refine wp_store_row 24 _ _ rfl k52 #[.bool d.f0, .bool d.f1, .bool d.f2, .bool d.f3, .bool d.f4, .bool d.f5, .bool d.f6, .bool d.f7, .int .u8 d.s0, .int .u8 d.s1, .int .i64 d.sh] rfl rfl 24 _ Z51.out (by kernel_rfl) rfl (one_cells d) ?_
            have KE := Lib.hid (Mm.two (hHeld.2.2.2.2.2.2.2.2.2.2.2.out) KL.out k52 k45 d s Z51.out Z50.out (Ne.symm N54.out) L55.out L47.out)
            have hs' := HR.out _ k52 #[.bool d.f0, .bool d.f1, .bool d.f2, .bool d.f3, .bool d.f4, .bool d.f5, .bool d.f6, .bool d.f7, .int .u8 d.s0, .int .u8 d.s1, .int .i64 d.sh] L55.out hHeld
            refine hK.out _ _ hs' (fun hHeld => ?_)
            clear hK K hs'
            refine wpAnyH_ready (rs := [10]) (by kernel_rfl) (by simp) ?_
            refine AllReadyH.cons rfl (fun K hK => ?_) AllReadyH.nil
            rw [if_pos (by kernel_rfl)]
            refine wp_store_row 24 _ _ rfl k45 #[.bool s.f0, .bool s.f1, .bool s.f2, .bool s.f3, .bool s.f4, .bool s.f5, .bool s.f6, .bool s.f7, .int .u8 s.s0, .int .u8 s.s1, .int .i64 s.sh] rfl rfl 24 _ ((Z50.out).rowOther (Ne.symm (Ne.symm N54.out)) _) (by kernel_rfl) rfl (one_cells s) ?_
            have hs' := HR.out _ k45 #[.bool s.f0, .bool s.f1, .bool s.f2, .bool s.f3, .bool s.f4, .bool s.f5, .bool s.f6, .bool s.f7, .int .u8 s.s0, .int .u8 s.s1, .int .i64 s.sh] L47.out hHeld
            refine hK.out _ _ hs' (fun hHeld => ?_)
            clear hK K hs'
            refine wpAnyH_done (by kernel_rfl) ?_ _
            clear hHeld
            go_wp2
            go_meet
            exact ⟨k52, k45, rfl, rfl, KE.out.rebase B1.out⟩
          · go_simp
            have hb' := below_alloc (w46) (.cells #[.bool false, .bool false, .bool false, .bool false, .bool false, .bool false, .bool false, .bool false, .int .u8 0, .int .u8 0, .int .i64 0] 24)
            have hs' := HKEEP.out _ _ hHeld hb'
            have Z56 := Lib.hid (Z44.out.below hb')
            have hsz : y1.heap.size ≤ (w46).heap.size := hHeld.2.2.2.2.2.2.2.2.2.2.2.out.1.size
            have Z57 : Hid (Md (w46.alloc (.cells #[.bool false, .bool false, .bool false, .bool false, .bool false, .bool false, .bool false, .bool false, .int .u8 0, .int .u8 0, .int .i64 0] 24)) (w46).heap.size zero) := Lib.hid (Md.laid _ zero)
            have N60 : Hid (k45 ≠ (w46).heap.size) := Lib.hid (by have := Z44.out.lt; omega)
            clear hHeld hb' Z44
            have L61 := Lib.hid hsz
            clear hsz
            generalize w46.alloc (.cells #[.bool false, .bool false, .bool false, .bool false, .bool false, .bool false, .bool false, .bool false, .int .u8 0, .int .u8 0, .int .i64 0] 24) = w59 at hs' Z56 Z57 ⊢
            generalize (w46).heap.size = k58 at L61 Z57 N60 ⊢
            refine hK.out _ _ hs' (fun hHeld => ?_)
            clear hK K hs'
            refine wpAnyH_ready (rs := [6]) (by kernel_rfl) (by simp) ?_
            refine AllReadyH.cons rfl (fun K hK => ?_) AllReadyH.nil
            go_simp
            (with_reducible refine (G4.out w59).mono ?_)
            rintro e w62 ⟨rfl, hb'⟩
            have hs' := HKEEP.out _ _ hHeld hb'
            have Z63 := Lib.hid (Z56.out.below hb')
            have Z64 := Lib.hid (Z57.out.below hb')
            clear hHeld hb' Z56 Z57
            refine hK.out _ _ hs' (fun hHeld => ?_)
            clear hK K hs'
            refine wpAnyH_ready (rs := [9]) (by kernel_rfl) (by simp) ?_
            refine AllReadyH.cons rfl (fun K hK => ?_) AllReadyH.nil
            rw [if_pos (by kernel_rfl)]
            refine wp_store_row 24 _ _ rfl k58 #[.bool d.f0, .bool d.f1, .bool d.f2, .bool d.f3, .bool d.f4, .bool d.f5, .bool d.f6, .bool d.f7, .int .u8 d.s0, .int .u8 d.s1, .int .i64 d.sh] rfl rfl 24 _ Z64.out (by kernel_rfl) rfl (one_cells d) ?_
            have KE := Lib.hid (Mm.two (hHeld.2.2.2.2.2.2.2.2.2.2.2.out) KL.out k58 k45 d s Z64.out Z63.out (Ne.symm N60.out) L61.out L47.out)
            have hs' := HR.out _ k58 #[.bool d.f0, .bool d.f1, .bool d.f2, .bool d.f3, .bool d.f4, .bool d.f5, .bool d.f6, .bool d.f7, .int .u8 d.s0, .int .u8 d.s1, .int .i64 d.sh] L61.out hHeld
            refine hK.out _ _ hs' (fun hHeld => ?_)
            clear hK K hs'
            refine wpAnyH_ready (rs := [10]) (by kernel_rfl) (by simp) ?_
            refine AllReadyH.cons rfl (fun K hK => ?_) AllReadyH.nil
            rw [if_pos (by kernel_rfl)]
            refine wp_store_row 24 _ _ rfl k45 #[.bool s.f0, .bool s.f1, .bool s.f2, .bool s.f3, .bool s.f4, .bool s.f5, .bool s.f6, .bool s.f7, .int .u8 s.s0, .int .u8 s.s1, .int .i64 s.sh] rfl rfl 24 _ ((Z63.out).rowOther (Ne.symm (Ne.symm N60.out)) _) (by kernel_rfl) rfl (one_cells s) ?_
            have hs' := HR.out _ k45 #[.bool s.f0, .bool s.f1, .bool s.f2, .bool s.f3, .bool s.f4, .bool s.f5, .bool s.f6, .bool s.f7, .int .u8 s.s0, .int .u8 s.s1, .int .i64 s.sh] L47.out hHeld
            refine hK.out _ _ hs' (fun hHeld => ?_)
            clear hK K hs'
            refine wpAnyH_done (by kernel_rfl) ?_ _
            clear hHeld
            go_wp2
            go_meet
            exact ⟨k58, k45, rfl, rfl, KE.out.rebase B1.out⟩
      · go_simp
        have hb' := below_alloc (yd) (.cells #[.bool false, .bool false, .bool false, .bool false, .bool false, .bool false, .bool false, .bool false, .int .u8 0, .int .u8 0, .int .i64 0] 24)
        have hs' := HKEEP.out _ _ hHeld hb'
        have hsz : y1.heap.size ≤ (yd).heap.size := hHeld.2.2.2.2.2.2.2.2.2.2.2.out.1.size
        have Z65 : Hid (Md (yd.alloc (.cells #[.bool false, .bool false, .bool false, .bool false, .bool false, .bool false, .bool false, .bool false, .int .u8 0, .int .u8 0, .int .i64 0] 24)) (yd).heap.size zero) := Lib.hid (Md.laid _ zero)
        clear hHeld hb'
        have L68 := Lib.hid hsz
        clear hsz
        generalize yd.alloc (.cells #[.bool false, .bool false, .bool false, .bool false, .bool false, .bool false, .bool false, .bool false, .int .u8 0, .int .u8 0, .int .i64 0] 24) = w67 at hs' Z65 ⊢
        generalize (yd).heap.size = k66 at L68 Z65 ⊢
        refine hK.out _ _ hs' (fun hHeld => ?_)
        clear hK K hs'
        refine wpAnyH_ready (rs := [3, 8]) (by kernel_rfl) (by simp) ?_
        refine AllReadyH.cons rfl (fun K hK => ?_) (AllReadyH.cons rfl (fun K hK => ?_) AllReadyH.nil)
        · go_simp
          (with_reducible refine (G3.out w67).mono ?_)
          rintro e w69 ⟨rfl, hb'⟩
          have hs' := HKEEP.out _ _ hHeld hb'
          have Z70 := Lib.hid (Z65.out.below hb')
          clear hHeld hb' Z65
          refine hK.out _ _ hs' (fun hHeld => ?_)
          clear hK K hs'
          refine wpAnyH_ready (rs := [6, 8]) (by kernel_rfl) (by simp) ?_
          refine AllReadyH.cons rfl (fun K hK => ?_) (AllReadyH.cons rfl (fun K hK => ?_) AllReadyH.nil)
          · go_simp
            (with_reducible refine (G4.out w69).mono ?_)
            rintro e w71 ⟨rfl, hb'⟩
            have hs' := HKEEP.out _ _ hHeld hb'
            have Z72 := Lib.hid (Z70.out.below hb')
            clear hHeld hb' Z70
            refine hK.out _ _ hs' (fun hHeld => ?_)
            clear hK K hs'
            refine wpAnyH_ready (rs := [8]) (by kernel_rfl) (by simp) ?_
            refine AllReadyH.cons rfl (fun K hK => ?_) AllReadyH.nil
            go_simp
            have hb' := below_alloc (w71) (.cells #[.bool false, .bool false, .bool false, .bool false, .bool false, .bool false, .bool false, .bool false, .int .u8 0, .int .u8 0, .int .i64 0] 24)
            have hs' := HKEEP.out _ _ hHeld hb'
            have Z73 := Lib.hid (Z72.out.below hb')
            have hsz : y1.heap.size ≤ (w71).heap.size := hHeld.2.2.2.2.2.2.2.2.2.2.2.out.1.size
            have Z74 : Hid (Md (w71.alloc (.cells #[.bool false, .bool false, .bool false, .bool false, .bool false, .bool false, .bool false, .bool false, .int .u8 0, .int .u8 0, .int .i64 0] 24)) (w71).heap.size zero) := Lib.hid (Md.laid _ zero)
            have N77 : Hid (k66 ≠ (w71).heap.size) := Lib.hid (by have := Z72.out.lt; omega)
            clear hHeld hb' Z72
            have L78 := Lib.hid hsz
            clear hsz
            generalize w71.alloc (.cells #[.bool false, .bool false, .bool false, .bool false, .bool false, .bool false, .bool false, .bool false, .int .u8 0, .int .u8 0, .int .i64 0] 24) = w76 at hs' Z73 Z74 ⊢
            generalize (w71).heap.size = k75 at L78 Z74 N77 ⊢
            refine hK.out _ _ hs' (fun hHeld => ?_)
            clear hK K hs'
            refine wpAnyH_ready (rs := [9]) (by kernel_rfl) (by simp) ?_
            refine AllReadyH.cons rfl (fun K hK => ?_) AllReadyH.nil
            rw [if_pos (by kernel_rfl)]
            refine wp_store_row 24 _ _ rfl k66 #[.bool d.f0, .bool d.f1, .bool d.f2, .bool d.f3, .bool d.f4, .bool d.f5, .bool d.f6, .bool d.f7, .int .u8 d.s0, .int .u8 d.s1, .int .i64 d.sh] rfl rfl 24 _ Z73.out (by kernel_rfl) rfl (one_cells d) ?_
            have KE := Lib.hid (Mm.two (hHeld.2.2.2.2.2.2.2.2.2.2.2.out) KL.out k66 k75 d s Z73.out Z74.out N77.out L68.out L78.out)
            have hs' := HR.out _ k66 #[.bool d.f0, .bool d.f1, .bool d.f2, .bool d.f3, .bool d.f4, .bool d.f5, .bool d.f6, .bool d.f7, .int .u8 d.s0, .int .u8 d.s1, .int .i64 d.sh] L68.out hHeld
            refine hK.out _ _ hs' (fun hHeld => ?_)
            clear hK K hs'
            refine wpAnyH_ready (rs := [10]) (by kernel_rfl) (by simp) ?_
            refine AllReadyH.cons rfl (fun K hK => ?_) AllReadyH.nil
            rw [if_pos (by kernel_rfl)]
            refine wp_store_row 24 _ _ rfl k75 #[.bool s.f0, .bool s.f1, .bool s.f2, .bool s.f3, .bool s.f4, .bool s.f5, .bool s.f6, .bool s.f7, .int .u8 s.s0, .int .u8 s.s1, .int .i64 s.sh] rfl rfl 24 _ ((Z74.out).rowOther (Ne.symm N77.out) _) (by kernel_rfl) rfl (one_cells s) ?_
            have hs' := HR.out _ k75 #[.bool s.f0, .bool s.f1, .bool s.f2, .bool s.f3, .bool s.f4, .bool s.f5, .bool s.f6, .bool s.f7, .int .u8 s.s0, .int .u8 s.s1, .int .i64 s.sh] L78.out hHeld
            refine hK.out _ _ hs' (fun hHeld => ?_)
            clear hK K hs'
            refine wpAnyH_done (by kernel_rfl) ?_ _
            clear hHeld
            go_wp2
            go_meet
            exact ⟨k66, k75, rfl, rfl, KE.out.rebase B1.out⟩
          · go_simp
            have hb' := below_alloc (w69) (.cells #[.bool false, .bool false, .bool false, .bool false, .bool false, .bool false, .bool false, .bool false, .int .u8 0, .int .u8 0, .int .i64 0] 24)
            have hs' := HKEEP.out _ _ hHeld hb'
            have Z79 := Lib.hid (Z70.out.below hb')
            have hsz : y1.heap.size ≤ (w69).heap.size := hHeld.2.2.2.2.2.2.2.2.2.2.2.out.1.size
            have Z80 : Hid (Md (w69.alloc (.cells #[.bool false, .bool false, .bool false, .bool false, .bool false, .bool false, .bool false, .bool false, .int .u8 0, .int .u8 0, .int .i64 0] 24)) (w69).heap.size zero) := Lib.hid (Md.laid _ zero)
            have N83 : Hid (k66 ≠ (w69).heap.size) := Lib.hid (by have := Z70.out.lt; omega)
            clear hHeld hb' Z70
            have L84 := Lib.hid hsz
            clear hsz
            generalize w69.alloc (.cells #[.bool false, .bool false, .bool false, .bool false, .bool false, .bool false, .bool false, .bool false, .int .u8 0, .int .u8 0, .int .i64 0] 24) = w82 at hs' Z79 Z80 ⊢
            generalize (w69).heap.size = k81 at L84 Z80 N83 ⊢
            refine hK.out _ _ hs' (fun hHeld => ?_)
            clear hK K hs'
            refine wpAnyH_ready (rs := [6]) (by kernel_rfl) (by simp) ?_
            refine AllReadyH.cons rfl (fun K hK => ?_) AllReadyH.nil
            go_simp
            (with_reducible refine (G4.out w82).mono ?_)
            rintro e w85 ⟨rfl, hb'⟩
            have hs' := HKEEP.out _ _ hHeld hb'
            have Z86 := Lib.hid (Z79.out.below hb')
            have Z87 := Lib.hid (Z80.out.below hb')
            clear hHeld hb' Z79 Z80
            refine hK.out _ _ hs' (fun hHeld => ?_)
            clear hK K hs'
            refine wpAnyH_ready (rs := [9]) (by kernel_rfl) (by simp) ?_
            refine AllReadyH.cons rfl (fun K hK => ?_) AllReadyH.nil
            rw [if_pos (by kernel_rfl)]
            refine wp_store_row 24 _ _ rfl k66 #[.bool d.f0, .bool d.f1, .bool d.f2, .bool d.f3, .bool d.f4, .bool d.f5, .bool d.f6, .bool d.f7, .int .u8 d.s0, .int .u8 d.s1, .int .i64 d.sh] rfl rfl 24 _ Z86.out (by kernel_rfl) rfl (one_cells d) ?_
            have KE := Lib.hid (Mm.two (hHeld.2.2.2.2.2.2.2.2.2.2.2.out) KL.out k66 k81 d s Z86.out Z87.out N83.out L68.out L84.out)
            have hs' := HR.out _ k66 #[.bool d.f0, .bool d.f1, .bool d.f2, .bool d.f3, .bool d.f4, .bool d.f5, .bool d.f6, .bool d.f7, .int .u8 d.s0, .int .u8 d.s1, .int .i64 d.sh] L68.out hHeld
            refine hK.out _ _ hs' (fun hHeld => ?_)
            clear hK K hs'
            refine wpAnyH_ready (rs := [10]) (by kernel_rfl) (by simp) ?_
            refine AllReadyH.cons rfl (fun K hK => ?_) AllReadyH.nil
            rw [if_pos (by kernel_rfl)]
            refine wp_store_row 24 _ _ rfl k81 #[.bool s.f0, .bool s.f1, .bool s.f2, .bool s.f3, .bool s.f4, .bool s.f5, .bool s.f6, .bool s.f7, .int .u8 s.s0, .int .u8 s.s1, .int .i64 s.sh] rfl rfl 24 _ ((Z87.out).rowOther (Ne.symm N83.out) _) (by kernel_rfl) rfl (one_cells s) ?_
            have hs' := HR.out _ k81 #[.bool s.f0, .bool s.f1, .bool s.f2, .bool s.f3, .bool s.f4, .bool s.f5, .bool s.f6, .bool s.f7, .int .u8 s.s0, .int .u8 s.s1, .int .i64 s.sh] L84.out hHeld
            refine hK.out _ _ hs' (fun hHeld => ?_)
            clear hK K hs'
            refine wpAnyH_done (by kernel_rfl) ?_ _
            clear hHeld
            go_wp2
            go_meet
            exact ⟨k66, k81, rfl, rfl, KE.out.rebase B1.out⟩
        · go_simp
          have hb' := below_alloc (w67) (.cells #[.bool false, .bool false, .bool false, .bool false, .bool false, .bool false, .bool false, .bool false, .int .u8 0, .int .u8 0, .int .i64 0] 24)
          have hs' := HKEEP.out _ _ hHeld hb'
          have Z88 := Lib.hid (Z65.out.below hb')
          have hsz : y1.heap.size ≤ (w67).heap.size := hHeld.2.2.2.2.2.2.2.2.2.2.2.out.1.size
          have Z89 : Hid (Md (w67.alloc (.cells #[.bool false, .bool false, .bool false, .bool false, .bool false, .bool false, .bool false, .bool false, .int .u8 0, .int .u8 0, .int .i64 0] 24)) (w67).heap.size zero) := Lib.hid (Md.laid _ zero)
          have N92 : Hid (k66 ≠ (w67).heap.size) := Lib.hid (by have := Z65.out.lt; omega)
          clear hHeld hb' Z65
          have L93 := Lib.hid hsz
          clear hsz
          generalize w67.alloc (.cells #[.bool false, .bool false, .bool false, .bool false, .bool false, .bool false, .bool false, .bool false, .int .u8 0, .int .u8 0, .int .i64 0] 24) = w91 at hs' Z88 Z89 ⊢
          generalize (w67).heap.size = k90 at L93 Z89 N92 ⊢
          refine hK.out _ _ hs' (fun hHeld => ?_)
          clear hK K hs'
          refine wpAnyH_ready (rs := [3]) (by kernel_rfl) (by simp) ?_
          refine AllReadyH.cons rfl (fun K hK => ?_) AllReadyH.nil
          go_simp
          (with_reducible refine (G3.out w91).mono ?_)
          rintro e w94 ⟨rfl, hb'⟩
          have hs' := HKEEP.out _ _ hHeld hb'
          have Z95 := Lib.hid (Z88.out.below hb')
          have Z96 := Lib.hid (Z89.out.below hb')
          clear hHeld hb' Z88 Z89
          refine hK.out _ _ hs' (fun hHeld => ?_)
          clear hK K hs'
          refine wpAnyH_ready (rs := [6]) (by kernel_rfl) (by simp) ?_
          refine AllReadyH.cons rfl (fun K hK => ?_) AllReadyH.nil
          go_simp
          (with_reducible refine (G4.out w94).mono ?_)
          rintro e w97 ⟨rfl, hb'⟩
          have hs' := HKEEP.out _ _ hHeld hb'
          have Z98 := Lib.hid (Z95.out.below hb')
          have Z99 := Lib.hid (Z96.out.below hb')
          clear hHeld hb' Z95 Z96
          refine hK.out _ _ hs' (fun hHeld => ?_)
          clear hK K hs'
          refine wpAnyH_ready (rs := [9]) (by kernel_rfl) (by simp) ?_
          refine AllReadyH.cons rfl (fun K hK => ?_) AllReadyH.nil
          rw [if_pos (by kernel_rfl)]
          refine wp_store_row 24 _ _ rfl k66 #[.bool d.f0, .bool d.f1, .bool d.f2, .bool d.f3, .bool d.f4, .bool d.f5, .bool d.f6, .bool d.f7, .int .u8 d.s0, .int .u8 d.s1, .int .i64 d.sh] rfl rfl 24 _ Z98.out (by kernel_rfl) rfl (one_cells d) ?_
          have KE := Lib.hid (Mm.two (hHeld.2.2.2.2.2.2.2.2.2.2.2.out) KL.out k66 k90 d s Z98.out Z99.out N92.out L68.out L93.out)
          have hs' := HR.out _ k66 #[.bool d.f0, .bool d.f1, .bool d.f2, .bool d.f3, .bool d.f4, .bool d.f5, .bool d.f6, .bool d.f7, .int .u8 d.s0, .int .u8 d.s1, .int .i64 d.sh] L68.out hHeld
          refine hK.out _ _ hs' (fun hHeld => ?_)
          clear hK K hs'
          refine wpAnyH_ready (rs := [10]) (by kernel_rfl) (by simp) ?_
          refine AllReadyH.cons rfl (fun K hK => ?_) AllReadyH.nil
          rw [if_pos (by kernel_rfl)]
          refine wp_store_row 24 _ _ rfl k90 #[.bool s.f0, .bool s.f1, .bool s.f2, .bool s.f3, .bool s.f4, .bool s.f5, .bool s.f6, .bool s.f7, .int .u8 s.s0, .int .u8 s.s1, .int .i64 s.sh] rfl rfl 24 _ ((Z99.out).rowOther (Ne.symm N92.out) _) (by kernel_rfl) rfl (one_cells s) ?_
          have hs' := HR.out _ k90 #[.bool s.f0, .bool s.f1, .bool s.f2, .bool s.f3, .bool s.f4, .bool s.f5, .bool s.f6, .bool s.f7, .int .u8 s.s0, .int .u8 s.s1, .int .i64 s.sh] L93.out hHeld
          refine hK.out _ _ hs' (fun hHeld => ?_)
          clear hK K hs'
          refine wpAnyH_done (by kernel_rfl) ?_ _
          clear hHeld
          go_wp2
          go_meet
          exact ⟨k66, k90, rfl, rfl, KE.out.rebase B1.out⟩
      · go_simp
        have hb' := below_alloc (yd) (.cells #[.bool false, .bool false, .bool false, .bool false, .bool false, .bool false, .bool false, .bool false, .int .u8 0, .int .u8 0, .int .i64 0] 24)
        have hs' := HKEEP.out _ _ hHeld hb'
        have hsz : y1.heap.size ≤ (yd).heap.size := hHeld.2.2.2.2.2.2.2.2.2.2.2.out.1.size
        have Z100 : Hid (Md (yd.alloc (.cells #[.bool false, .bool false, .bool false, .bool false, .bool false, .bool false, .bool false, .bool false, .int .u8 0, .int .u8 0, .int .i64 0] 24)) (yd).heap.size zero) := Lib.hid (Md.laid _ zero)
        clear hHeld hb'
        have L103 := Lib.hid hsz
        clear hsz
        generalize yd.alloc (.cells #[.bool false, .bool false, .bool false, .bool false, .bool false, .bool false, .bool false, .bool false, .int .u8 0, .int .u8 0, .int .i64 0] 24) = w102 at hs' Z100 ⊢
        generalize (yd).heap.size = k101 at L103 Z100 ⊢
        refine hK.out _ _ hs' (fun hHeld => ?_)
        clear hK K hs'
        refine wpAnyH_ready (rs := [3, 7]) (by kernel_rfl) (by simp) ?_
        refine AllReadyH.cons rfl (fun K hK => ?_) (AllReadyH.cons rfl (fun K hK => ?_) AllReadyH.nil)
        · go_simp
          (with_reducible refine (G3.out w102).mono ?_)
          rintro e w104 ⟨rfl, hb'⟩
          have hs' := HKEEP.out _ _ hHeld hb'
          have Z105 := Lib.hid (Z100.out.below hb')
          clear hHeld hb' Z100
          refine hK.out _ _ hs' (fun hHeld => ?_)
          clear hK K hs'
          refine wpAnyH_ready (rs := [6, 7]) (by kernel_rfl) (by simp) ?_
          refine AllReadyH.cons rfl (fun K hK => ?_) (AllReadyH.cons rfl (fun K hK => ?_) AllReadyH.nil)
          · go_simp
            (with_reducible refine (G4.out w104).mono ?_)
            rintro e w106 ⟨rfl, hb'⟩
            have hs' := HKEEP.out _ _ hHeld hb'
            have Z107 := Lib.hid (Z105.out.below hb')
            clear hHeld hb' Z105
            refine hK.out _ _ hs' (fun hHeld => ?_)
            clear hK K hs'
            refine wpAnyH_ready (rs := [7]) (by kernel_rfl) (by simp) ?_
            refine AllReadyH.cons rfl (fun K hK => ?_) AllReadyH.nil
            go_simp
            have hb' := below_alloc (w106) (.cells #[.bool false, .bool false, .bool false, .bool false, .bool false, .bool false, .bool false, .bool false, .int .u8 0, .int .u8 0, .int .i64 0] 24)
            have hs' := HKEEP.out _ _ hHeld hb'
            have Z108 := Lib.hid (Z107.out.below hb')
            have hsz : y1.heap.size ≤ (w106).heap.size := hHeld.2.2.2.2.2.2.2.2.2.2.2.out.1.size
            have Z109 : Hid (Md (w106.alloc (.cells #[.bool false, .bool false, .bool false, .bool false, .bool false, .bool false, .bool false, .bool false, .int .u8 0, .int .u8 0, .int .i64 0] 24)) (w106).heap.size zero) := Lib.hid (Md.laid _ zero)
            have N112 : Hid (k101 ≠ (w106).heap.size) := Lib.hid (by have := Z107.out.lt; omega)
            clear hHeld hb' Z107
            have L113 := Lib.hid hsz
            clear hsz
            generalize w106.alloc (.cells #[.bool false, .bool false, .bool false, .bool false, .bool false, .bool false, .bool false, .bool false, .int .u8 0, .int .u8 0, .int .i64 0] 24) = w111 at hs' Z108 Z109 ⊢
            generalize (w106).heap.size = k110 at L113 Z109 N112 ⊢
            refine hK.out _ _ hs' (fun hHeld => ?_)
            clear hK K hs'
            refine wpAnyH_ready (rs := [9]) (by kernel_rfl) (by simp) ?_
            refine AllReadyH.cons rfl (fun K hK => ?_) AllReadyH.nil
            rw [if_pos (by kernel_rfl)]
            refine wp_store_row 24 _ _ rfl k110 #[.bool d.f0, .bool d.f1, .bool d.f2, .bool d.f3, .bool d.f4, .bool d.f5, .bool d.f6, .bool d.f7, .int .u8 d.s0, .int .u8 d.s1, .int .i64 d.sh] rfl rfl 24 _ Z109.out (by kernel_rfl) rfl (one_cells d) ?_
            have KE := Lib.hid (Mm.two (hHeld.2.2.2.2.2.2.2.2.2.2.2.out) KL.out k110 k101 d s Z109.out Z108.out (Ne.symm N112.out) L113.out L103.out)
            have hs' := HR.out _ k110 #[.bool d.f0, .bool d.f1, .bool d.f2, .bool d.f3, .bool d.f4, .bool d.f5, .bool d.f6, .bool d.f7, .int .u8 d.s0, .int .u8 d.s1, .int .i64 d.sh] L113.out hHeld
            refine hK.out _ _ hs' (fun hHeld => ?_)
            clear hK K hs'
            refine wpAnyH_ready (rs := [10]) (by kernel_rfl) (by simp) ?_
            refine AllReadyH.cons rfl (fun K hK => ?_) AllReadyH.nil
            rw [if_pos (by kernel_rfl)]
            refine wp_store_row 24 _ _ rfl k101 #[.bool s.f0, .bool s.f1, .bool s.f2, .bool s.f3, .bool s.f4, .bool s.f5, .bool s.f6, .bool s.f7, .int .u8 s.s0, .int .u8 s.s1, .int .i64 s.sh] rfl rfl 24 _ ((Z108.out).rowOther (Ne.symm (Ne.symm N112.out)) _) (by kernel_rfl) rfl (one_cells s) ?_
            have hs' := HR.out _ k101 #[.bool s.f0, .bool s.f1, .bool s.f2, .bool s.f3, .bool s.f4, .bool s.f5, .bool s.f6, .bool s.f7, .int .u8 s.s0, .int .u8 s.s1, .int .i64 s.sh] L103.out hHeld
            refine hK.out _ _ hs' (fun hHeld => ?_)
            clear hK K hs'
            refine wpAnyH_done (by kernel_rfl) ?_ _
            clear hHeld
            go_wp2
            go_meet
            exact ⟨k110, k101, rfl, rfl, KE.out.rebase B1.out⟩
          · go_simp
            have hb' := below_alloc (w104) (.cells #[.bool false, .bool false, .bool false, .bool false, .bool false, .bool false, .bool false, .bool false, .int .u8 0, .int .u8 0, .int .i64 0] 24)
            have hs' := HKEEP.out _ _ hHeld hb'
            have Z114 := Lib.hid (Z105.out.below hb')
            have hsz : y1.heap.size ≤ (w104).heap.size := hHeld.2.2.2.2.2.2.2.2.2.2.2.out.1.size
            have Z115 : Hid (Md (w104.alloc (.cells #[.bool false, .bool false, .bool false, .bool false, .bool false, .bool false, .bool false, .bool false, .int .u8 0, .int .u8 0, .int .i64 0] 24)) (w104).heap.size zero) := Lib.hid (Md.laid _ zero)
            have N118 : Hid (k101 ≠ (w104).heap.size) := Lib.hid (by have := Z105.out.lt; omega)
            clear hHeld hb' Z105
            have L119 := Lib.hid hsz
            clear hsz
            generalize w104.alloc (.cells #[.bool false, .bool false, .bool false, .bool false, .bool false, .bool false, .bool false, .bool false, .int .u8 0, .int .u8 0, .int .i64 0] 24) = w117 at hs' Z114 Z115 ⊢
            generalize (w104).heap.size = k116 at L119 Z115 N118 ⊢
            refine hK.out _ _ hs' (fun hHeld => ?_)
            clear hK K hs'
            refine wpAnyH_ready (rs := [6]) (by kernel_rfl) (by simp) ?_
            refine AllReadyH.cons rfl (fun K hK => ?_) AllReadyH.nil
            go_simp
            (with_reducible refine (G4.out w117).mono ?_)
            rintro e w120 ⟨rfl, hb'⟩
            have hs' := HKEEP.out _ _ hHeld hb'
            have Z121 := Lib.hid (Z114.out.below hb')
            have Z122 := Lib.hid (Z115.out.below hb')
            clear hHeld hb' Z114 Z115
            refine hK.out _ _ hs' (fun hHeld => ?_)
            clear hK K hs'
            refine wpAnyH_ready (rs := [9]) (by kernel_rfl) (by simp) ?_
            refine AllReadyH.cons rfl (fun K hK => ?_) AllReadyH.nil
            rw [if_pos (by kernel_rfl)]
            refine wp_store_row 24 _ _ rfl k116 #[.bool d.f0, .bool d.f1, .bool d.f2, .bool d.f3, .bool d.f4, .bool d.f5, .bool d.f6, .bool d.f7, .int .u8 d.s0, .int .u8 d.s1, .int .i64 d.sh] rfl rfl 24 _ Z122.out (by kernel_rfl) rfl (one_cells d) ?_
            have KE := Lib.hid (Mm.two (hHeld.2.2.2.2.2.2.2.2.2.2.2.out) KL.out k116 k101 d s Z122.out Z121.out (Ne.symm N118.out) L119.out L103.out)
            have hs' := HR.out _ k116 #[.bool d.f0, .bool d.f1, .bool d.f2, .bool d.f3, .bool d.f4, .bool d.f5, .bool d.f6, .bool d.f7, .int .u8 d.s0, .int .u8 d.s1, .int .i64 d.sh] L119.out hHeld
            refine hK.out _ _ hs' (fun hHeld => ?_)
            clear hK K hs'
            refine wpAnyH_ready (rs := [10]) (by kernel_rfl) (by simp) ?_
            refine AllReadyH.cons rfl (fun K hK => ?_) AllReadyH.nil
            rw [if_pos (by kernel_rfl)]
            refine wp_store_row 24 _ _ rfl k101 #[.bool s.f0, .bool s.f1, .bool s.f2, .bool s.f3, .bool s.f4, .bool s.f5, .bool s.f6, .bool s.f7, .int .u8 s.s0, .int .u8 s.s1, .int .i64 s.sh] rfl rfl 24 _ ((Z121.out).rowOther (Ne.symm (Ne.symm N118.out)) _) (by kernel_rfl) rfl (one_cells s) ?_
            have hs' := HR.out _ k101 #[.bool s.f0, .bool s.f1, .bool s.f2, .bool s.f3, .bool s.f4, .bool s.f5, .bool s.f6, .bool s.f7, .int .u8 s.s0, .int .u8 s.s1, .int .i64 s.sh] L103.out hHeld
            refine hK.out _ _ hs' (fun hHeld => ?_)
            clear hK K hs'
            refine wpAnyH_done (by kernel_rfl) ?_ _
            clear hHeld
            go_wp2
            go_meet
            exact ⟨k116, k101, rfl, rfl, KE.out.rebase B1.out⟩
        · go_simp
          have hb' := below_alloc (w102) (.cells #[.bool false, .bool false, .bool false, .bool false, .bool false, .bool false, .bool false, .bool false, .int .u8 0, .int .u8 0, .int .i64 0] 24)
          have hs' := HKEEP.out _ _ hHeld hb'
          have Z123 := Lib.hid (Z100.out.below hb')
          have hsz : y1.heap.size ≤ (w102).heap.size := hHeld.2.2.2.2.2.2.2.2.2.2.2.out.1.size
          have Z124 : Hid (Md (w102.alloc (.cells #[.bool false, .bool false, .bool false, .bool false, .bool false, .bool false, .bool false, .bool false, .int .u8 0, .int .u8 0, .int .i64 0] 24)) (w102).heap.size zero) := Lib.hid (Md.laid _ zero)
          have N127 : Hid (k101 ≠ (w102).heap.size) := Lib.hid (by have := Z100.out.lt; omega)
          clear hHeld hb' Z100
          have L128 := Lib.hid hsz
          clear hsz
          generalize w102.alloc (.cells #[.bool false, .bool false, .bool false, .bool false, .bool false, .bool false, .bool false, .bool false, .int .u8 0, .int .u8 0, .int .i64 0] 24) = w126 at hs' Z123 Z124 ⊢
          generalize (w102).heap.size = k125 at L128 Z124 N127 ⊢
          refine hK.out _ _ hs' (fun hHeld => ?_)
          clear hK K hs'
          refine wpAnyH_ready (rs := [3]) (by kernel_rfl) (by simp) ?_
          refine AllReadyH.cons rfl (fun K hK => ?_) AllReadyH.nil
          go_simp
          (with_reducible refine (G3.out w126).mono ?_)
          rintro e w129 ⟨rfl, hb'⟩
          have hs' := HKEEP.out _ _ hHeld hb'
          have Z130 := Lib.hid (Z123.out.below hb')
          have Z131 := Lib.hid (Z124.out.below hb')
          clear hHeld hb' Z123 Z124
          refine hK.out _ _ hs' (fun hHeld => ?_)
          clear hK K hs'
          refine wpAnyH_ready (rs := [6]) (by kernel_rfl) (by simp) ?_
          refine AllReadyH.cons rfl (fun K hK => ?_) AllReadyH.nil
          go_simp
          (with_reducible refine (G4.out w129).mono ?_)
          rintro e w132 ⟨rfl, hb'⟩
          have hs' := HKEEP.out _ _ hHeld hb'
          have Z133 := Lib.hid (Z130.out.below hb')
          have Z134 := Lib.hid (Z131.out.below hb')
          clear hHeld hb' Z130 Z131
          refine hK.out _ _ hs' (fun hHeld => ?_)
          clear hK K hs'
          refine wpAnyH_ready (rs := [9]) (by kernel_rfl) (by simp) ?_
          refine AllReadyH.cons rfl (fun K hK => ?_) AllReadyH.nil
          rw [if_pos (by kernel_rfl)]
          refine wp_store_row 24 _ _ rfl k125 #[.bool d.f0, .bool d.f1, .bool d.f2, .bool d.f3, .bool d.f4, .bool d.f5, .bool d.f6, .bool d.f7, .int .u8 d.s0, .int .u8 d.s1, .int .i64 d.sh] rfl rfl 24 _ Z134.out (by kernel_rfl) rfl (one_cells d) ?_
          have KE := Lib.hid (Mm.two (hHeld.2.2.2.2.2.2.2.2.2.2.2.out) KL.out k125 k101 d s Z134.out Z133.out (Ne.symm N127.out) L128.out L103.out)
          have hs' := HR.out _ k125 #[.bool d.f0, .bool d.f1, .bool d.f2, .bool d.f3, .bool d.f4, .bool d.f5, .bool d.f6, .bool d.f7, .int .u8 d.s0, .int .u8 d.s1, .int .i64 d.sh] L128.out hHeld
          refine hK.out _ _ hs' (fun hHeld => ?_)
          clear hK K hs'
          refine wpAnyH_ready (rs := [10]) (by kernel_rfl) (by simp) ?_
          refine AllReadyH.cons rfl (fun K hK => ?_) AllReadyH.nil
          rw [if_pos (by kernel_rfl)]
          refine wp_store_row 24 _ _ rfl k101 #[.bool s.f0, .bool s.f1, .bool s.f2, .bool s.f3, .bool s.f4, .bool s.f5, .bool s.f6, .bool s.f7, .int .u8 s.s0, .int .u8 s.s1, .int .i64 s.sh] rfl rfl 24 _ ((Z133.out).rowOther (Ne.symm (Ne.symm N127.out)) _) (by kernel_rfl) rfl (one_cells s) ?_
          have hs' := HR.out _ k101 #[.bool s.f0, .bool s.f1, .bool s.f2, .bool s.f3, .bool s.f4, .bool s.f5, .bool s.f6, .bool s.f7, .int .u8 s.s0, .int .u8 s.s1, .int .i64 s.sh] L103.out hHeld
          refine hK.out _ _ hs' (fun hHeld => ?_)
          clear hK K hs'
          refine wpAnyH_done (by kernel_rfl) ?_ _
          clear hHeld
          go_wp2
          go_meet
          exact ⟨k125, k101, rfl, rfl, KE.out.rebase B1.out⟩
    case rest =>
      obtain ⟨k2, k3, rfl, rfl, KM⟩ := hcut
      have KM := Lib.hid KM.out
      clear K1 K2 KL G3 G4 GM GD GS
      have GB := Lib.hid bareV
      have eqS := equalIn_same
      have eqT := equalIn_twoS
      have eq2 := Tryd.eqGuardType24
      have eq3 : Tryd.prog.eqGuardType Tryd.prog.depth 22 = false := by kernel_rfl
      have esh : (m.sh == m.sh) = true := by simp
      have key0 : ∀ U, Mm w U [(w.heap.size, m), (k1, a), (k2, d), (k3, s)] → (U.cell? ⟨w.heap.size, 0, none⟩ = some (.bool m.f0) ∧ U.cell? ⟨w.heap.size, 1, none⟩ = some (.bool m.f1) ∧ U.cell? ⟨w.heap.size, 2, none⟩ = some (.bool m.f2) ∧ U.cell? ⟨w.heap.size, 3, none⟩ = some (.bool m.f3) ∧ U.cell? ⟨w.heap.size, 4, none⟩ = some (.bool m.f4) ∧ U.cell? ⟨w.heap.size, 5, none⟩ = some (.bool m.f5) ∧ U.cell? ⟨w.heap.size, 6, none⟩ = some (.bool m.f6) ∧ U.cell? ⟨w.heap.size, 7, none⟩ = some (.bool m.f7) ∧ U.cell? ⟨w.heap.size, 8, none⟩ = some (.int .u8 m.s0) ∧ U.cell? ⟨w.heap.size, 9, none⟩ = some (.int .u8 m.s1) ∧ U.cell? ⟨w.heap.size, 10, none⟩ = some (.int .i64 m.sh) ∧ U.cell? ⟨k1, 8, none⟩ = some (.int .u8 m.s0) ∧ U.cell? ⟨k1, 9, none⟩ = some (.int .u8 m.s1) ∧ U.cell? ⟨k1, 10, none⟩ = some (.int .i64 m.sh) ∧ U.cell? ⟨k2, 0, none⟩ = some (.bool m.f0) ∧ U.cell? ⟨k2, 1, none⟩ = some (.bool m.f1) ∧ U.cell? ⟨k2, 2, none⟩ = some (.bool m.f2) ∧ U.cell? ⟨k2, 3, none⟩ = some (.bool m.f3) ∧ U.cell? ⟨k2, 4, none⟩ = some (.bool m.f4) ∧ U.cell? ⟨k2, 5, none⟩ = some (.bool m.f5) ∧ U.cell? ⟨k2, 6, none⟩ = some (.bool m.f6) ∧ U.cell? ⟨k2, 7, none⟩ = some (.bool m.f7) ∧ U.cell? ⟨k2, 8, none⟩ = some (.int .u8 d.s0) ∧ U.cell? ⟨k2, 9, none⟩ = some (.int .u8 d.s1) ∧ U.cell? ⟨k2, 10, none⟩ = some (.int .i64 m.sh) ∧ U.cell? ⟨k3, 0, none⟩ = some (.bool m.f0) ∧ U.cell? ⟨k3, 1, none⟩ = some (.bool m.f1) ∧ U.cell? ⟨k3, 2, none⟩ = some (.bool m.f2) ∧ U.cell? ⟨k3, 3, none⟩ = some (.bool m.f3) ∧ U.cell? ⟨k3, 4, none⟩ = some (.bool m.f4) ∧ U.cell? ⟨k3, 5, none⟩ = some (.bool m.f5) ∧ U.cell? ⟨k3, 6, none⟩ = some (.bool m.f6) ∧ U.cell? ⟨k3, 7, none⟩ = some (.bool m.f7) ∧ U.cell? ⟨k3, 8, none⟩ = some (.int .u8 m.s0) ∧ U.cell? ⟨k3, 9, none⟩ = some (.int .u8 m.s1) ∧ U.cell? ⟨k3, 10, none⟩ = some (.int .i64 s.sh) ∧ Aside (Mm w U [(w.heap.size, m), (k1, a), (k2, d), (k3, s)])) := fun U k => by
        obtain ⟨a0_0, a0_1, a0_2, a0_3, a0_4, a0_5, a0_6, a0_7, a0_8, a0_9, a0_10⟩ := (k.at 0 rfl).all
        obtain ⟨a1_0, a1_1, a1_2, a1_3, a1_4, a1_5, a1_6, a1_7, a1_8, a1_9, a1_10⟩ := (k.at 1 rfl).all
        obtain ⟨a2_0, a2_1, a2_2, a2_3, a2_4, a2_5, a2_6, a2_7, a2_8, a2_9, a2_10⟩ := (k.at 2 rfl).all
        obtain ⟨a3_0, a3_1, a3_2, a3_3, a3_4, a3_5, a3_6, a3_7, a3_8, a3_9, a3_10⟩ := (k.at 3 rfl).all
        exact ⟨a0_0, a0_1, a0_2, a0_3, a0_4, a0_5, a0_6, a0_7, a0_8, a0_9, a0_10, (a1_8.trans (by rw [HA.out.1])), (a1_9.trans (by rw [HA.out.2.1])), (a1_10.trans (by rw [HA.out.2.2])), (a2_0.trans (by rw [HD.out.1])), (a2_1.trans (by rw [HD.out.2.1])), (a2_2.trans (by rw [HD.out.2.2.1])), (a2_3.trans (by rw [HD.out.2.2.2.1])), (a2_4.trans (by rw [HD.out.2.2.2.2.1])), (a2_5.trans (by rw [HD.out.2.2.2.2.2.1])), (a2_6.trans (by rw [HD.out.2.2.2.2.2.2.1])), (a2_7.trans (by rw [HD.out.2.2.2.2.2.2.2.1])), a2_8, a2_9, (a2_10.trans (by rw [HD.out.2.2.2.2.2.2.2.2])), (a3_0.trans (by rw [HS.out.1])), (a3_1.trans (by rw [HS.out.2.1])), (a3_2.trans (by rw [HS.out.2.2.1])), (a3_3.trans (by rw [HS.out.2.2.2.1])), (a3_4.trans (by rw [HS.out.2.2.2.2.1])), (a3_5.trans (by rw [HS.out.2.2.2.2.2.1])), (a3_6.trans (by rw [HS.out.2.2.2.2.2.2.1])), (a3_7.trans (by rw [HS.out.2.2.2.2.2.2.2.1])), (a3_8.trans (by rw [HS.out.2.2.2.2.2.2.2.2.1])), (a3_9.trans (by rw [HS.out.2.2.2.2.2.2.2.2.2])), a3_10, k⟩
      have HKEEP : Hid (∀ (U U' : World), (U.cell? ⟨w.heap.size, 0, none⟩ = some (.bool m.f0) ∧ U.cell? ⟨w.heap.size, 1, none⟩ = some (.bool m.f1) ∧ U.cell? ⟨w.heap.size, 2, none⟩ = some (.bool m.f2) ∧ U.cell? ⟨w.heap.size, 3, none⟩ = some (.bool m.f3) ∧ U.cell? ⟨w.heap.size, 4, none⟩ = some (.bool m.f4) ∧ U.cell? ⟨w.heap.size, 5, none⟩ = some (.bool m.f5) ∧ U.cell? ⟨w.heap.size, 6, none⟩ = some (.bool m.f6) ∧ U.cell? ⟨w.heap.size, 7, none⟩ = some (.bool m.f7) ∧ U.cell? ⟨w.heap.size, 8, none⟩ = some (.int .u8 m.s0) ∧ U.cell? ⟨w.heap.size, 9, none⟩ = some (.int .u8 m.s1) ∧ U.cell? ⟨w.heap.size, 10, none⟩ = some (.int .i64 m.sh) ∧ U.cell? ⟨k1, 8, none⟩ = some (.int .u8 m.s0) ∧ U.cell? ⟨k1, 9, none⟩ = some (.int .u8 m.s1) ∧ U.cell? ⟨k1, 10, none⟩ = some (.int .i64 m.sh) ∧ U.cell? ⟨k2, 0, none⟩ = some (.bool m.f0) ∧ U.cell? ⟨k2, 1, none⟩ = some (.bool m.f1) ∧ U.cell? ⟨k2, 2, none⟩ = some (.bool m.f2) ∧ U.cell? ⟨k2, 3, none⟩ = some (.bool m.f3) ∧ U.cell? ⟨k2, 4, none⟩ = some (.bool m.f4) ∧ U.cell? ⟨k2, 5, none⟩ = some (.bool m.f5) ∧ U.cell? ⟨k2, 6, none⟩ = some (.bool m.f6) ∧ U.cell? ⟨k2, 7, none⟩ = some (.bool m.f7) ∧ U.cell? ⟨k2, 8, none⟩ = some (.int .u8 d.s0) ∧ U.cell? ⟨k2, 9, none⟩ = some (.int .u8 d.s1) ∧ U.cell? ⟨k2, 10, none⟩ = some (.int .i64 m.sh) ∧ U.cell? ⟨k3, 0, none⟩ = some (.bool m.f0) ∧ U.cell? ⟨k3, 1, none⟩ = some (.bool m.f1) ∧ U.cell? ⟨k3, 2, none⟩ = some (.bool m.f2) ∧ U.cell? ⟨k3, 3, none⟩ = some (.bool m.f3) ∧ U.cell? ⟨k3, 4, none⟩ = some (.bool m.f4) ∧ U.cell? ⟨k3, 5, none⟩ = some (.bool m.f5) ∧ U.cell? ⟨k3, 6, none⟩ = some (.bool m.f6) ∧ U.cell? ⟨k3, 7, none⟩ = some (.bool m.f7) ∧ U.cell? ⟨k3, 8, none⟩ = some (.int .u8 m.s0) ∧ U.cell? ⟨k3, 9, none⟩ = some (.int .u8 m.s1) ∧ U.cell? ⟨k3, 10, none⟩ = some (.int .i64 s.sh) ∧ Aside (Mm w U [(w.heap.size, m), (k1, a), (k2, d), (k3, s)])) → Below U.heap.size U U' → (U'.cell? ⟨w.heap.size, 0, none⟩ = some (.bool m.f0) ∧ U'.cell? ⟨w.heap.size, 1, none⟩ = some (.bool m.f1) ∧ U'.cell? ⟨w.heap.size, 2, none⟩ = some (.bool m.f2) ∧ U'.cell? ⟨w.heap.size, 3, none⟩ = some (.bool m.f3) ∧ U'.cell? ⟨w.heap.size, 4, none⟩ = some (.bool m.f4) ∧ U'.cell? ⟨w.heap.size, 5, none⟩ = some (.bool m.f5) ∧ U'.cell? ⟨w.heap.size, 6, none⟩ = some (.bool m.f6) ∧ U'.cell? ⟨w.heap.size, 7, none⟩ = some (.bool m.f7) ∧ U'.cell? ⟨w.heap.size, 8, none⟩ = some (.int .u8 m.s0) ∧ U'.cell? ⟨w.heap.size, 9, none⟩ = some (.int .u8 m.s1) ∧ U'.cell? ⟨w.heap.size, 10, none⟩ = some (.int .i64 m.sh) ∧ U'.cell? ⟨k1, 8, none⟩ = some (.int .u8 m.s0) ∧ U'.cell? ⟨k1, 9, none⟩ = some (.int .u8 m.s1) ∧ U'.cell? ⟨k1, 10, none⟩ = some (.int .i64 m.sh) ∧ U'.cell? ⟨k2, 0, none⟩ = some (.bool m.f0) ∧ U'.cell? ⟨k2, 1, none⟩ = some (.bool m.f1) ∧ U'.cell? ⟨k2, 2, none⟩ = some (.bool m.f2) ∧ U'.cell? ⟨k2, 3, none⟩ = some (.bool m.f3) ∧ U'.cell? ⟨k2, 4, none⟩ = some (.bool m.f4) ∧ U'.cell? ⟨k2, 5, none⟩ = some (.bool m.f5) ∧ U'.cell? ⟨k2, 6, none⟩ = some (.bool m.f6) ∧ U'.cell? ⟨k2, 7, none⟩ = some (.bool m.f7) ∧ U'.cell? ⟨k2, 8, none⟩ = some (.int .u8 d.s0) ∧ U'.cell? ⟨k2, 9, none⟩ = some (.int .u8 d.s1) ∧ U'.cell? ⟨k2, 10, none⟩ = some (.int .i64 m.sh) ∧ U'.cell? ⟨k3, 0, none⟩ = some (.bool m.f0) ∧ U'.cell? ⟨k3, 1, none⟩ = some (.bool m.f1) ∧ U'.cell? ⟨k3, 2, none⟩ = some (.bool m.f2) ∧ U'.cell? ⟨k3, 3, none⟩ = some (.bool m.f3) ∧ U'.cell? ⟨k3, 4, none⟩ = some (.bool m.f4) ∧ U'.cell? ⟨k3, 5, none⟩ = some (.bool m.f5) ∧ U'.cell? ⟨k3, 6, none⟩ = some (.bool m.f6) ∧ U'.cell? ⟨k3, 7, none⟩ = some (.bool m.f7) ∧ U'.cell? ⟨k3, 8, none⟩ = some (.int .u8 m.s0) ∧ U'.cell? ⟨k3, 9, none⟩ = some (.int .u8 m.s1) ∧ U'.cell? ⟨k3, 10, none⟩ = some (.int .i64 s.sh) ∧ Aside (Mm w U' [(w.heap.size, m), (k1, a), (k2, d), (k3, s)]))) := Lib.hid (fun U U' hs hu => key0 U' (hs.2.2.2.2.2.2.2.2.2.2.2.2.2.2.2.2.2.2.2.2.2.2.2.2.2.2.2.2.2.2.2.2.2.2.2.2.out.below hu))
      have hS := key0 wc.drew (KM.out.below (Below.refl _ _).drew)
      clear key0 KM HA HD HS
      go_wp2_with fail
      refine wp_region_held_drew (S := fun U => U.cell? ⟨w.heap.size, 0, none⟩ = some (.bool m.f0) ∧ U.cell? ⟨w.heap.size, 1, none⟩ = some (.bool m.f1) ∧ U.cell? ⟨w.heap.size, 2, none⟩ = some (.bool m.f2) ∧ U.cell? ⟨w.heap.size, 3, none⟩ = some (.bool m.f3) ∧ U.cell? ⟨w.heap.size, 4, none⟩ = some (.bool m.f4) ∧ U.cell? ⟨w.heap.size, 5, none⟩ = some (.bool m.f5) ∧ U.cell? ⟨w.heap.size, 6, none⟩ = some (.bool m.f6) ∧ U.cell? ⟨w.heap.size, 7, none⟩ = some (.bool m.f7) ∧ U.cell? ⟨w.heap.size, 8, none⟩ = some (.int .u8 m.s0) ∧ U.cell? ⟨w.heap.size, 9, none⟩ = some (.int .u8 m.s1) ∧ U.cell? ⟨w.heap.size, 10, none⟩ = some (.int .i64 m.sh) ∧ U.cell? ⟨k1, 8, none⟩ = some (.int .u8 m.s0) ∧ U.cell? ⟨k1, 9, none⟩ = some (.int .u8 m.s1) ∧ U.cell? ⟨k1, 10, none⟩ = some (.int .i64 m.sh) ∧ U.cell? ⟨k2, 0, none⟩ = some (.bool m.f0) ∧ U.cell? ⟨k2, 1, none⟩ = some (.bool m.f1) ∧ U.cell? ⟨k2, 2, none⟩ = some (.bool m.f2) ∧ U.cell? ⟨k2, 3, none⟩ = some (.bool m.f3) ∧ U.cell? ⟨k2, 4, none⟩ = some (.bool m.f4) ∧ U.cell? ⟨k2, 5, none⟩ = some (.bool m.f5) ∧ U.cell? ⟨k2, 6, none⟩ = some (.bool m.f6) ∧ U.cell? ⟨k2, 7, none⟩ = some (.bool m.f7) ∧ U.cell? ⟨k2, 8, none⟩ = some (.int .u8 d.s0) ∧ U.cell? ⟨k2, 9, none⟩ = some (.int .u8 d.s1) ∧ U.cell? ⟨k2, 10, none⟩ = some (.int .i64 m.sh) ∧ U.cell? ⟨k3, 0, none⟩ = some (.bool m.f0) ∧ U.cell? ⟨k3, 1, none⟩ = some (.bool m.f1) ∧ U.cell? ⟨k3, 2, none⟩ = some (.bool m.f2) ∧ U.cell? ⟨k3, 3, none⟩ = some (.bool m.f3) ∧ U.cell? ⟨k3, 4, none⟩ = some (.bool m.f4) ∧ U.cell? ⟨k3, 5, none⟩ = some (.bool m.f5) ∧ U.cell? ⟨k3, 6, none⟩ = some (.bool m.f6) ∧ U.cell? ⟨k3, 7, none⟩ = some (.bool m.f7) ∧ U.cell? ⟨k3, 8, none⟩ = some (.int .u8 m.s0) ∧ U.cell? ⟨k3, 9, none⟩ = some (.int .u8 m.s1) ∧ U.cell? ⟨k3, 10, none⟩ = some (.int .i64 s.sh) ∧ Aside (Mm w U [(w.heap.size, m), (k1, a), (k2, d), (k3, s)])) (by kernel_rfl) hS (fun hHeld => ?_)
      clear hS
      refine wpAnyH_take (i := 0) (v := ?_) rfl (by kernel_rfl) (by kernel_rfl) (by kernel_rfl) (fun _ _ _ h => h) (Or.inl ⟨by rfl, ?_⟩) (by assumption) ?_
      rotate_left
      · (intro W hSw; (try dsimp only at hSw); go_simp; try with_reducible rfl)
      simp only [Act.put, List.getElem_toArray, List.getElem_cons_zero, List.setIfInBounds_toArray, List.set_cons_zero, List.set_cons_succ]
      refine wpAnyH_take (i := 1) (v := ?_) rfl (by kernel_rfl) (by kernel_rfl) (by kernel_rfl) (fun _ _ _ h => h) (Or.inl ⟨by rfl, ?_⟩) (by assumption) ?_
      rotate_left
      · (intro W hSw; (try dsimp only at hSw); go_simp; try with_reducible rfl)
      simp only [Act.put, List.getElem_toArray, List.getElem_cons_succ, List.getElem_cons_zero, List.setIfInBounds_toArray, List.set_cons_zero, List.set_cons_succ]
      refine wpAnyH_take (i := 2) (v := ?_) rfl (by kernel_rfl) (by kernel_rfl) (by kernel_rfl) (fun _ _ _ h => h) (Or.inl ⟨by rfl, ?_⟩) (by assumption) ?_
      rotate_left
      · (intro W hSw; (try dsimp only at hSw); go_simp; try with_reducible rfl)
      simp only [Act.put, List.getElem_toArray, List.getElem_cons_succ, List.getElem_cons_zero, List.setIfInBounds_toArray, List.set_cons_zero, List.set_cons_succ]
      refine wpAnyH_take (i := 3) (v := ?_) rfl (by kernel_rfl) (by kernel_rfl) (by kernel_rfl) (fun _ _ _ h => h) (Or.inl ⟨by rfl, ?_⟩) (by assumption) ?_
      rotate_left
      · (intro W hSw; (try dsimp only at hSw); go_simp; try with_reducible rfl)
      simp only [Act.put, List.getElem_toArray, List.getElem_cons_succ, List.getElem_cons_zero, List.setIfInBounds_toArray, List.set_cons_zero, List.set_cons_succ]
      refine wpAnyH_take (i := 4) (v := ?_) rfl (by kernel_rfl) (by kernel_rfl) (by kernel_rfl) (fun _ _ _ h => h) (Or.inl ⟨by rfl, ?_⟩) (by assumption) ?_
      rotate_left
      · (intro W hSw; (try dsimp only at hSw); go_simp; try with_reducible rfl)
      simp only [Act.put, List.getElem_toArray, List.getElem_cons_succ, List.getElem_cons_zero, List.setIfInBounds_toArray, List.set_cons_zero, List.set_cons_succ]
      refine wpAnyH_take (i := 5) (v := ?_) rfl (by kernel_rfl) (by kernel_rfl) (by kernel_rfl) (fun _ _ _ h => h) (Or.inl ⟨by rfl, ?_⟩) (by assumption) ?_
      rotate_left
      · (intro W hSw; (try dsimp only at hSw); go_simp; try with_reducible rfl)
      simp only [Act.put, List.getElem_toArray, List.getElem_cons_succ, List.getElem_cons_zero, List.setIfInBounds_toArray, List.set_cons_zero, List.set_cons_succ]
      refine wpAnyH_take (i := 6) (v := ?_) rfl (by kernel_rfl) (by kernel_rfl) (by kernel_rfl) (fun _ _ _ h => h) (Or.inl ⟨by rfl, ?_⟩) (by assumption) ?_
      rotate_left
      · (intro W hSw; (try dsimp only at hSw); go_simp; try with_reducible rfl)
      simp only [Act.put, List.getElem_toArray, List.getElem_cons_succ, List.getElem_cons_zero, List.setIfInBounds_toArray, List.set_cons_zero, List.set_cons_succ]
      refine wpAnyH_take (i := 7) (v := ?_) rfl (by kernel_rfl) (by kernel_rfl) (by kernel_rfl) (fun _ _ _ h => h) (Or.inl ⟨by rfl, ?_⟩) (by assumption) ?_
      rotate_left
      · (intro W hSw; (try dsimp only at hSw); go_simp; try with_reducible rfl)
      simp only [Act.put, List.getElem_toArray, List.getElem_cons_succ, List.getElem_cons_zero, List.setIfInBounds_toArray, List.set_cons_zero, List.set_cons_succ]
      refine wpAnyH_take (i := 8) (v := ?_) rfl (by kernel_rfl) (by kernel_rfl) (by kernel_rfl) (fun _ _ _ h => h) (Or.inl ⟨by rfl, ?_⟩) (by assumption) ?_
      rotate_left
      · (intro W hSw; (try dsimp only at hSw); go_simp; try with_reducible rfl)
      simp only [Act.put, List.getElem_toArray, List.getElem_cons_succ, List.getElem_cons_zero, List.setIfInBounds_toArray, List.set_cons_zero, List.set_cons_succ]
      refine wpAnyH_take (i := 9) (v := ?_) rfl (by kernel_rfl) (by kernel_rfl) (by kernel_rfl) (fun _ _ _ h => h) (Or.inl ⟨by rfl, ?_⟩) (by assumption) ?_
      rotate_left
      · (intro W hSw; (try dsimp only at hSw); go_simp; try with_reducible rfl)
      simp only [Act.put, List.getElem_toArray, List.getElem_cons_succ, List.getElem_cons_zero, List.setIfInBounds_toArray, List.set_cons_zero, List.set_cons_succ]
      refine wpAnyH_take (i := 10) (v := ?_) rfl (by kernel_rfl) (by kernel_rfl) (by kernel_rfl) (fun _ _ _ h => h) (Or.inl ⟨by rfl, ?_⟩) (by assumption) ?_
      rotate_left
      · (intro W hSw; (try dsimp only at hSw); go_simp; try with_reducible rfl)
      simp only [Act.put, List.getElem_toArray, List.getElem_cons_succ, List.getElem_cons_zero, List.setIfInBounds_toArray, List.set_cons_zero, List.set_cons_succ]
      refine wpAnyH_take (i := 11) (v := ?_) rfl (by kernel_rfl) (by kernel_rfl) (by kernel_rfl) (fun _ _ _ h => h) (Or.inl ⟨by rfl, ?_⟩) (by assumption) ?_
      rotate_left
      · (intro W hSw; (try dsimp only at hSw); go_simp; try with_reducible rfl)
      simp only [Act.put, List.getElem_toArray, List.getElem_cons_succ, List.getElem_cons_zero, List.setIfInBounds_toArray, List.set_cons_zero, List.set_cons_succ]
      refine wpAnyH_take (i := 12) (v := ?_) rfl (by kernel_rfl) (by kernel_rfl) (by kernel_rfl) (fun _ _ _ h => h) (Or.inl ⟨by rfl, ?_⟩) (by assumption) ?_
      rotate_left
      · (intro W hSw; (try dsimp only at hSw); go_simp; try with_reducible rfl)
      simp only [Act.put, List.getElem_toArray, List.getElem_cons_succ, List.getElem_cons_zero, List.setIfInBounds_toArray, List.set_cons_zero, List.set_cons_succ]
      refine wpAnyH_take (i := 13) (v := ?_) rfl (by kernel_rfl) (by kernel_rfl) (by kernel_rfl) (fun _ _ _ h => h) (Or.inl ⟨by rfl, ?_⟩) (by assumption) ?_
      rotate_left
      · (intro W hSw; (try dsimp only at hSw); go_simp; try with_reducible rfl)
      simp only [Act.put, List.getElem_toArray, List.getElem_cons_succ, List.getElem_cons_zero, List.setIfInBounds_toArray, List.set_cons_zero, List.set_cons_succ]
      refine wpAnyH_take (i := 15) (v := ?_) rfl (by kernel_rfl) (by kernel_rfl) (by kernel_rfl) (fun _ _ _ h => h) (Or.inl ⟨by rfl, ?_⟩) (by assumption) ?_
      rotate_left
      · (intro W hSw; (try dsimp only at hSw); go_simp; try with_reducible rfl)
      simp only [Act.put, List.getElem_toArray, List.getElem_cons_succ, List.getElem_cons_zero, List.setIfInBounds_toArray, List.set_cons_zero, List.set_cons_succ]
      refine wpAnyH_ready (rs := [14]) (by kernel_rfl) (by simp) ?_
      refine AllReadyH.cons rfl (fun K hK => ?_) AllReadyH.nil
      go_simp
      (with_reducible refine (GB.out _ _ _ _ _ _ _ _ _ _ _ _).mono ?_); rintro e w' ⟨rfl, hb'⟩; have hs' := HKEEP.out _ _ hHeld hb'; clear hHeld hb'
      refine hK.out _ _ hs' (fun hHeld => ?_)
      clear hK K hs'
      refine wpAnyH_ready (rs := [16]) (by kernel_rfl) (by simp) ?_
      refine AllReadyH.cons rfl (fun K hK => ?_) AllReadyH.nil
      go_simp
      (with_reducible refine (GB.out _ _ _ _ _ _ _ _ _ _ _ _).mono ?_); rintro e w' ⟨rfl, hb'⟩; have hs' := HKEEP.out _ _ hHeld hb'; clear hHeld hb'
      refine hK.out _ _ hs' (fun hHeld => ?_)
      clear hK K hs'
      refine wpAnyH_take (i := 17) (v := ?_) rfl (by kernel_rfl) (by kernel_rfl) (by kernel_rfl) (fun _ _ _ h => h) (Or.inl ⟨by rfl, ?_⟩) (by assumption) ?_
      rotate_left
      · (intro W hSw; (try dsimp only at hSw); go_simp; try with_reducible rfl)
      simp only [Act.put, List.getElem_toArray, List.getElem_cons_succ, List.getElem_cons_zero, List.setIfInBounds_toArray, List.set_cons_zero, List.set_cons_succ]
      refine wpAnyH_take (i := 18) (v := ?_) rfl (by kernel_rfl) (by kernel_rfl) (by kernel_rfl) (fun _ _ _ h => h) (Or.inl ⟨by rfl, ?_⟩) (by assumption) ?_
      rotate_left
      · (intro W hSw; (try dsimp only at hSw); go_simp; try with_reducible rfl)
      simp only [Act.put, List.getElem_toArray, List.getElem_cons_succ, List.getElem_cons_zero, List.setIfInBounds_toArray, List.set_cons_zero, List.set_cons_succ]
      refine wpAnyH_take (i := 19) (v := ?_) rfl (by kernel_rfl) (by kernel_rfl) (by kernel_rfl) (fun _ _ _ h => h) (Or.inl ⟨by rfl, ?_⟩) (by assumption) ?_
      rotate_left
      · (intro W hSw; (try dsimp only at hSw); go_simp; try with_reducible rfl)
      simp only [Act.put, List.getElem_toArray, List.getElem_cons_succ, List.getElem_cons_zero, List.setIfInBounds_toArray, List.set_cons_zero, List.set_cons_succ]
      refine wpAnyH_take (i := 20) (v := ?_) rfl (by kernel_rfl) (by kernel_rfl) (by kernel_rfl) (fun _ _ _ h => h) (Or.inl ⟨by rfl, ?_⟩) (by assumption) ?_
      rotate_left
      · (intro W hSw; (try dsimp only at hSw); go_simp; try with_reducible rfl)
      simp only [Act.put, List.getElem_toArray, List.getElem_cons_succ, List.getElem_cons_zero, List.setIfInBounds_toArray, List.set_cons_zero, List.set_cons_succ]
      refine wpAnyH_take (i := 21) (v := ?_) rfl (by kernel_rfl) (by kernel_rfl) (by kernel_rfl) (fun _ _ _ h => h) (Or.inl ⟨by rfl, ?_⟩) (by assumption) ?_
      rotate_left
      · (intro W hSw; (try dsimp only at hSw); go_simp; try with_reducible rfl)
      simp only [Act.put, List.getElem_toArray, List.getElem_cons_succ, List.getElem_cons_zero, List.setIfInBounds_toArray, List.set_cons_zero, List.set_cons_succ]
      refine wpAnyH_take (i := 22) (v := ?_) rfl (by kernel_rfl) (by kernel_rfl) (by kernel_rfl) (fun _ _ _ h => h) (Or.inl ⟨by rfl, ?_⟩) (by assumption) ?_
      rotate_left
      · (intro W hSw; (try dsimp only at hSw); go_simp; try with_reducible rfl)
      simp only [Act.put, List.getElem_toArray, List.getElem_cons_succ, List.getElem_cons_zero, List.setIfInBounds_toArray, List.set_cons_zero, List.set_cons_succ]
      refine wpAnyH_take (i := 23) (v := ?_) rfl (by kernel_rfl) (by kernel_rfl) (by kernel_rfl) (fun _ _ _ h => h) (Or.inl ⟨by rfl, ?_⟩) (by assumption) ?_
      rotate_left
      · (intro W hSw; (try dsimp only at hSw); go_simp; try with_reducible rfl)
      simp only [Act.put, List.getElem_toArray, List.getElem_cons_succ, List.getElem_cons_zero, List.setIfInBounds_toArray, List.set_cons_zero, List.set_cons_succ]
      refine wpAnyH_take (i := 24) (v := ?_) rfl (by kernel_rfl) (by kernel_rfl) (by kernel_rfl) (fun _ _ _ h => h) (Or.inl ⟨by rfl, ?_⟩) (by assumption) ?_
      rotate_left
      · (intro W hSw; (try dsimp only at hSw); go_simp; try with_reducible rfl)
      simp only [Act.put, List.getElem_toArray, List.getElem_cons_succ, List.getElem_cons_zero, List.setIfInBounds_toArray, List.set_cons_zero, List.set_cons_succ]
      refine wpAnyH_take (i := 25) (v := ?_) rfl (by kernel_rfl) (by kernel_rfl) (by kernel_rfl) (fun _ _ _ h => h) (Or.inl ⟨by rfl, ?_⟩) (by assumption) ?_
      rotate_left
      · (intro W hSw; (try dsimp only at hSw); go_simp; try with_reducible rfl)
      simp only [Act.put, List.getElem_toArray, List.getElem_cons_succ, List.getElem_cons_zero, List.setIfInBounds_toArray, List.set_cons_zero, List.set_cons_succ]
      refine wpAnyH_take (i := 26) (v := ?_) rfl (by kernel_rfl) (by kernel_rfl) (by kernel_rfl) (fun _ _ _ h => h) (Or.inl ⟨by rfl, ?_⟩) (by assumption) ?_
      rotate_left
      · (intro W hSw; (try dsimp only at hSw); go_simp; try with_reducible rfl)
      simp only [Act.put, List.getElem_toArray, List.getElem_cons_succ, List.getElem_cons_zero, List.setIfInBounds_toArray, List.set_cons_zero, List.set_cons_succ]
      refine wpAnyH_take (i := 27) (v := ?_) rfl (by kernel_rfl) (by kernel_rfl) (by kernel_rfl) (fun _ _ _ h => h) (Or.inl ⟨by rfl, ?_⟩) (by assumption) ?_
      rotate_left
      · (intro W hSw; (try dsimp only at hSw); go_simp; try with_reducible rfl)
      simp only [Act.put, List.getElem_toArray, List.getElem_cons_succ, List.getElem_cons_zero, List.setIfInBounds_toArray, List.set_cons_zero, List.set_cons_succ]
      refine wpAnyH_take (i := 29) (v := ?_) rfl (by kernel_rfl) (by kernel_rfl) (by kernel_rfl) (fun _ _ _ h => h) (Or.inl ⟨by rfl, ?_⟩) (by assumption) ?_
      rotate_left
      · (intro W hSw; (try dsimp only at hSw); go_simp; try with_reducible rfl)
      simp only [Act.put, List.getElem_toArray, List.getElem_cons_succ, List.getElem_cons_zero, List.setIfInBounds_toArray, List.set_cons_zero, List.set_cons_succ]
      refine wpAnyH_ready (rs := [28]) (by kernel_rfl) (by simp) ?_
      refine AllReadyH.cons rfl (fun K hK => ?_) AllReadyH.nil
      go_simp
      (with_reducible refine (GB.out _ _ _ _ _ _ _ _ _ _ _ _).mono ?_); rintro e w' ⟨rfl, hb'⟩; have hs' := HKEEP.out _ _ hHeld hb'; clear hHeld hb'
      refine hK.out _ _ hs' (fun hHeld => ?_)
      clear hK K hs'
      refine wpAnyH_ready (rs := [30]) (by kernel_rfl) (by simp) ?_
      refine AllReadyH.cons rfl (fun K hK => ?_) AllReadyH.nil
      go_simp
      (with_reducible refine (GB.out _ _ _ _ _ _ _ _ _ _ _ _).mono ?_); rintro e w' ⟨rfl, hb'⟩; have hs' := HKEEP.out _ _ hHeld hb'; clear hHeld hb'
      refine hK.out _ _ hs' (fun hHeld => ?_)
      clear hK K hs'
      refine wpAnyH_take (i := 31) (v := ?_) rfl (by kernel_rfl) (by kernel_rfl) (by kernel_rfl) (fun _ _ _ h => h) (Or.inl ⟨by rfl, ?_⟩) (by assumption) ?_
      rotate_left
      · (intro W hSw; (try dsimp only at hSw); go_simp; try with_reducible rfl)
      simp only [Act.put, List.getElem_toArray, List.getElem_cons_succ, List.getElem_cons_zero, List.setIfInBounds_toArray, List.set_cons_zero, List.set_cons_succ]
      refine wpAnyH_take (i := 32) (v := ?_) rfl (by kernel_rfl) (by kernel_rfl) (by kernel_rfl) (fun _ _ _ h => h) (Or.inl ⟨by rfl, ?_⟩) (by assumption) ?_
      rotate_left
      · (intro W hSw; (try dsimp only at hSw); go_simp; try with_reducible rfl)
      simp only [Act.put, List.getElem_toArray, List.getElem_cons_succ, List.getElem_cons_zero, List.setIfInBounds_toArray, List.set_cons_zero, List.set_cons_succ]
      refine wpAnyH_take (i := 33) (v := ?_) rfl (by kernel_rfl) (by kernel_rfl) (by kernel_rfl) (fun _ _ _ h => h) (Or.inl ⟨by rfl, ?_⟩) (by assumption) ?_
      rotate_left
      · (intro W hSw; (try dsimp only at hSw); go_simp; try with_reducible rfl)
      simp only [Act.put, List.getElem_toArray, List.getElem_cons_succ, List.getElem_cons_zero, List.setIfInBounds_toArray, List.set_cons_zero, List.set_cons_succ]
      refine wpAnyH_take (i := 34) (v := ?_) rfl (by kernel_rfl) (by kernel_rfl) (by kernel_rfl) (fun _ _ _ h => h) (Or.inl ⟨by rfl, ?_⟩) (by assumption) ?_
      rotate_left
      · (intro W hSw; (try dsimp only at hSw); go_simp; try with_reducible rfl)
      simp only [Act.put, List.getElem_toArray, List.getElem_cons_succ, List.getElem_cons_zero, List.setIfInBounds_toArray, List.set_cons_zero, List.set_cons_succ]
      refine wpAnyH_take (i := 35) (v := ?_) rfl (by kernel_rfl) (by kernel_rfl) (by kernel_rfl) (fun _ _ _ h => h) (Or.inl ⟨by rfl, ?_⟩) (by assumption) ?_
      rotate_left
      · (intro W hSw; (try dsimp only at hSw); go_simp; try with_reducible rfl)
      simp only [Act.put, List.getElem_toArray, List.getElem_cons_succ, List.getElem_cons_zero, List.setIfInBounds_toArray, List.set_cons_zero, List.set_cons_succ]
      refine wpAnyH_take (i := 36) (v := ?_) rfl (by kernel_rfl) (by kernel_rfl) (by kernel_rfl) (fun _ _ _ h => h) (Or.inl ⟨by rfl, ?_⟩) (by assumption) ?_
      rotate_left
      · (intro W hSw; (try dsimp only at hSw); go_simp; try with_reducible rfl)
      simp only [Act.put, List.getElem_toArray, List.getElem_cons_succ, List.getElem_cons_zero, List.setIfInBounds_toArray, List.set_cons_zero, List.set_cons_succ]
      refine wpAnyH_take (i := 37) (v := ?_) rfl (by kernel_rfl) (by kernel_rfl) (by kernel_rfl) (fun _ _ _ h => h) (Or.inl ⟨by rfl, ?_⟩) (by assumption) ?_
      rotate_left
      · (intro W hSw; (try dsimp only at hSw); go_simp; try with_reducible rfl)
      simp only [Act.put, List.getElem_toArray, List.getElem_cons_succ, List.getElem_cons_zero, List.setIfInBounds_toArray, List.set_cons_zero, List.set_cons_succ]
      refine wpAnyH_take (i := 38) (v := ?_) rfl (by kernel_rfl) (by kernel_rfl) (by kernel_rfl) (fun _ _ _ h => h) (Or.inl ⟨by rfl, ?_⟩) (by assumption) ?_
      rotate_left
      · (intro W hSw; (try dsimp only at hSw); go_simp; try with_reducible rfl)
      simp only [Act.put, List.getElem_toArray, List.getElem_cons_succ, List.getElem_cons_zero, List.setIfInBounds_toArray, List.set_cons_zero, List.set_cons_succ]
      refine wpAnyH_take (i := 39) (v := ?_) rfl (by kernel_rfl) (by kernel_rfl) (by kernel_rfl) (fun _ _ _ h => h) (Or.inl ⟨by rfl, ?_⟩) (by assumption) ?_
      rotate_left
      · (intro W hSw; (try dsimp only at hSw); go_simp; try with_reducible rfl)
      simp only [Act.put, List.getElem_toArray, List.getElem_cons_succ, List.getElem_cons_zero, List.setIfInBounds_toArray, List.set_cons_zero, List.set_cons_succ]
      refine wpAnyH_take (i := 40) (v := ?_) rfl (by kernel_rfl) (by kernel_rfl) (by kernel_rfl) (fun _ _ _ h => h) (Or.inl ⟨by rfl, ?_⟩) (by assumption) ?_
      rotate_left
      · (intro W hSw; (try dsimp only at hSw); go_simp; try with_reducible rfl)
      simp only [Act.put, List.getElem_toArray, List.getElem_cons_succ, List.getElem_cons_zero, List.setIfInBounds_toArray, List.set_cons_zero, List.set_cons_succ]
      refine wpAnyH_ready (rs := [41]) (by kernel_rfl) (by simp) ?_
      refine AllReadyH.cons rfl (fun K hK => ?_) AllReadyH.nil
      go_simp
      have hU := hHeld.2.2.2.2.2.2.2.2.2.2.2.2.2.2.2.2.2.2.2.2.2.2.2.2.2.2.2.2.2.2.2.2.2.2.2.2.out.1; (with_reducible refine (GA.out _ hU).mono ?_); clear hU; rintro e w' ⟨rfl, hb'⟩; have hs' := HKEEP.out _ _ hHeld hb'; clear hHeld hb'
      refine hK.out _ _ hs' (fun hHeld => ?_)
      clear hK K hs'
      refine wpAnyH_take (i := 42) (v := ?_) rfl (by kernel_rfl) (by kernel_rfl) (by kernel_rfl) (fun _ _ _ h => h) (Or.inl ⟨by rfl, ?_⟩) (by assumption) ?_
      rotate_left
      · (intro W hSw; (try dsimp only at hSw); go_simp; try with_reducible rfl)
      simp only [Act.put, List.getElem_toArray, List.getElem_cons_succ, List.getElem_cons_zero, List.setIfInBounds_toArray, List.set_cons_zero, List.set_cons_succ]
      refine wpAnyH_take (i := 43) (v := ?_) rfl (by kernel_rfl) (by kernel_rfl) (by kernel_rfl) (fun _ _ _ h => h) (Or.inl ⟨by rfl, ?_⟩) (by assumption) ?_
      rotate_left
      · (intro W hSw; (try dsimp only at hSw); go_simp; try with_reducible rfl)
      simp only [Act.put, List.getElem_toArray, List.getElem_cons_succ, List.getElem_cons_zero, List.setIfInBounds_toArray, List.set_cons_zero, List.set_cons_succ]
      refine wpAnyH_done (by kernel_rfl) ?_ _
      have hB := hHeld.2.2.2.2.2.2.2.2.2.2.2.2.2.2.2.2.2.2.2.2.2.2.2.2.2.2.2.2.2.2.2.2.2.2.2.2.out.1
      clear hHeld
      go_wp2
      go_ret
      exact ⟨rfl, hB⟩

end Go.Proofs.YtgnkbcflkalhjaaDoor
