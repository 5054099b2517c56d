/-
  The statement on flags and colors returns true, for every rendition and every slice of bytes.
-/
import Derived.Test.YtodcjdglnfgdpaaDoorPair
import Derived.Deep.RegionWith
import Derived.Deep.DeepCutAuto
namespace Go.Proofs.YtodcjdglnfgdpaaDoor
open Go.RowKit

set_option maxHeartbeats 4000000 in
set_option maxRecDepth 100000 in
theorem indep_main (a : At.R) (A : Option Addr) (n c : Nat) (xs : List Int) (w : World) (hX : Byts w w.heap.size A n xs) (hr : ∀ z ∈ xs, 0 ≤ z ∧ z ≤ 255) (hT : Tb w) (ha : At.ok a) (h1 : 0 < n) (h2 : n ≤ 40) :
    Calls Tryd.prog 7 #[av a, .slice A n c] w fun e w' => e = .returned (.bool true) ∧ Below w.heap.size w w' := by
  have h0 := (Ke.start hT).more a
  rw [List.nil_append] at h0
  have cA := Lib.hid (fun W h => check_yes a W h ha)
  have HL := Lib.hid (low_keeps a (lows_range hr) (by rw [lows_len, hX.1]; omega))
  have HH := Lib.hid (fun h => high_keeps a (highs_range hr) h)
  have RL := Lib.hid (lows_range hr)
  have RH := Lib.hid (highs_range hr)
  have HX := Lib.hid hX
  have HR := Lib.hid hr
  have H0 := Lib.hid h0
  have e1 : ((n : Int) == 0) = false := by simp; omega
  have e3 : ¬ (40 : Int) < (n : Int) := by omega
  obtain ⟨f, b, g⟩ := a
  clear h0 ha hX hr
  simp only at H0 HL HH
  go_enter Tryd.func7, Tryd.ntmps7
  go_wp2_with fail
  refine (cA.out _ H0.out.2.2).mono ?_
  rintro e w1 ⟨rfl, b1⟩
  have H1 := Lib.hid (H0.out.below b1)
  clear b1 H0
  have HP := Lib.hid (Pr.start w1)
  go_wp2
  go_loopg [5, 6, 8, 9, 29] n (fun gg s5 s6 _ _ s29 wr => ∃ k : Nat, k ≤ n ∧ n - k ≤ gg ∧ s29 = .int .i64 k ∧ Aside (Pr w1 wr s5 (lows (xs.take k)) s6 (highs (xs.take k))))
  case atStart => exact ⟨0, Nat.zero_le _, by omega, rfl, HP.out⟩
  case round =>
    clear HP
    obtain ⟨k, hk, hg, rfl, AS⟩ := hrel
    by_cases hkn : k < n
    · have hz : (k : Int) < (n : Int) := by omega
      have hz0 : (0 : Int) ≤ (k : Int) := by omega
      obtain ⟨bb, off, hA, hb, hc⟩ := ((HX.out.below H1.out.2.1).below (AS.out.2.2.1.mono H1.out.2.1.size)).2 k hkn
      have hkl : k < xs.length := by have := HX.out.1; omega
      have sL := Lib.hid (lows_step xs k hkl)
      have sH := Lib.hid (highs_step xs k hkl)
      have hxr : 0 ≤ xs.getD k 0 ∧ xs.getD k 0 ≤ 255 := HR.out _ (by
        rw [List.getD_eq_getElem?_getD, List.getElem?_eq_getElem hkl]
        exact List.getElem_mem hkl)
      have ll : (lows (xs.take k)).length ≤ 100000 := by rw [lows_len, List.length_take]; omega
      have lh : (highs (xs.take k)).length ≤ 100000 := by have := highs_len (xs.take k); rw [List.length_take] at this; omega
      generalize lows (xs.take k) = lo at AS ll sL
      generalize highs (xs.take k) = hi at AS lh sH
      generalize xs.getD k 0 = x at hc hxr sL sH
      obtain ⟨x0, x1⟩ := hxr
      subst hA
      have ht : x.tmod 29 = x % 29 := Int.tmod_eq_emod_of_nonneg x0
      obtain ⟨y, hy⟩ : ∃ y, x.tmod 29 = y := ⟨_, rfl⟩
      have HY : Hid (x % 29 = y) := Lib.hid (by rw [← ht, hy])
      have y0 : 0 ≤ y := by have := HY.out; omega
      have y1 : y ≤ 28 := by have := HY.out; omega
      clear ht
      by_cases hq : 30 + x = 38 ∨ 30 + x = 48
      · have q1 : (30 + x != 38 && 30 + x != 48) = false := by rcases hq with h | h <;> simp [h]
        rw [q1] at sH
        clear q1
        rcases hq with h | h
        · have f1 : (30 + x != 38) = false := by simp [h]
          clear h
          go_wp2_with (at_builtin; refine wpList_push_pair rfl (.tmp 33) (.tmp 38) rfl w1 _ _ _ lo hi _ rfl rfl AS.out ll ?_; intro v4 w4 hout4; have HO4 := Lib.hid hout4; clear hout4)
          go_roundg (n - (k + 1))
          case measure => omega
          case rel =>
            refine ⟨k + 1, by omega, by omega, by go_num, ?_⟩
            unfold Aside
            rw [sL.out, sH.out]
            simpa [HY.out] using HO4.out
        · have f1 : (30 + x != 38) = true := by simp; omega
          have f2 : (30 + x != 48) = false := by simp [h]
          clear h
          go_wp2_with (at_builtin; refine wpList_push_pair rfl (.tmp 33) (.tmp 38) rfl w1 _ _ _ lo hi _ rfl rfl AS.out ll ?_; intro v4 w4 hout4; have HO4 := Lib.hid hout4; clear hout4)
          go_roundg (n - (k + 1))
          case measure => omega
          case rel =>
            refine ⟨k + 1, by omega, by omega, by go_num, ?_⟩
            unfold Aside
            rw [sL.out, sH.out]
            simpa [HY.out] using HO4.out
      · have q1 : (30 + x != 38 && 30 + x != 48) = true := by simp; omega
        rw [q1] at sH
        have f1 : (30 + x != 38) = true := by simp; omega
        have f2 : (30 + x != 48) = true := by simp; omega
        clear q1
        go_wp2_with (first | (at_builtin; refine wpList_push_pair rfl (.tmp 33) (.tmp 38) rfl w1 _ _ _ lo hi _ rfl rfl AS.out ll ?_; intro v4 w4 hout4; have HO4 := Lib.hid hout4; clear hout4) | (at_builtin; refine wpList_push_pair rfl (.tmp 49) (.tmp 51) rfl w1 _ _ _ hi _ _ rfl rfl HO4.out.symm lh ?_; intro v5 w5 hout5; have HO5 := Lib.hid hout5; clear hout5))
        go_roundg (n - (k + 1))
        case measure => omega
        case rel =>
          refine ⟨k + 1, by omega, by omega, by go_num, ?_⟩
          unfold Aside
          rw [sL.out, sH.out]
          have := HO5.out.symm
          simpa [HY.out] using this
    · have hz : ¬ (k : Int) < (n : Int) := by omega
      have hxt : xs.take k = xs := List.take_of_length_le (by have := HX.out.1; omega)
      rw [hxt] at AS
      clear hxt
      have HA := Lib.hid AS.out
      clear AS
      obtain ⟨A5, c5, e5⟩ := HA.out.left.slice
      obtain ⟨A6, c6, e6⟩ := HA.out.symm.left.slice
      obtain ⟨n5, hn5⟩ : ∃ n5, (lows xs).length = n5 := ⟨_, rfl⟩
      obtain ⟨n6, hn6⟩ : ∃ n6, (highs xs).length = n6 := ⟨_, rfl⟩
      rw [hn5] at e5
      rw [hn6] at e6
      subst e5 e6
      have g5 := HA.out.left.gives
      have g6 := HA.out.symm.left.gives
      have l5 : n5 ≤ 40 := by rw [lows_len] at hn5; have := HX.out.1; omega
      have l6 : n6 ≤ 40 := by have := highs_len xs; have := HX.out.1; omega
      have K6 := Lib.hid g6.2.1
      have N6 := Lib.hid g6.1
      have HN6 := Lib.hid hn6
      have H2 := Lib.hid (H1.out.below HA.out.2.2.1)
      have c5' := apply_any A5 n5 c5 wr.heap.size (lows xs) ⟨f, b, g⟩ wr (Nat.le_refl _) g5.1 g5.2.1 (by omega) (fun z hz => by have := RL.out z hz; omega) H2.out.2.2
      have ea : At.apply ⟨f, b, g⟩ (lows xs) = ⟨f, b, (At.apply ⟨f, b, g⟩ (lows xs)).g⟩ := At.R.eq HL.out.1 HL.out.2 rfl
      rw [ea] at c5'
      generalize (At.apply ⟨f, b, g⟩ (lows xs)).g = g2 at c5'
      have C5 := Lib.hid c5'
      have r2 := H2.out.rec 0 rfl
      have z0 := r2.c0
      have z1 := r2.c1
      have z2 := r2.c2
      clear ea c5' g5 g6 HA hn5 hn6 H1 r2 HL
      go_wp2_with fail
      refine C5.out.mono ?_
      rintro e w3 ⟨rfl, b3⟩
      clear z0 z1 z2 C5
      have H3 := Lib.hid (H2.out.below b3)
      have N3 := Lib.hid (N6.out.below b3 (Nat.le_refl _))
      have s3 := b3.size
      have H4 := Lib.hid (H3.out.more ⟨f, b, g2⟩)
      have b4 : Below w3.heap.size w3 (w3.alloc (.cells #[.int .i64 f, .int .i64 b, .int .i64 g2] 23)) := (Below.refl _ _).alloc (Nat.le_refl _) _
      have N4 := Lib.hid (N3.out.below b4 s3)
      have r4 := H4.out.rec 0 rfl
      have z0 := r4.c0
      have z1 := r4.c1
      have z2 := r4.c2
      have s4 : wr.heap.size ≤ (w3.alloc (.cells #[.int .i64 f, .int .i64 b, .int .i64 g2] 23)).heap.size := by simp; omega
      have HS4 := Lib.hid s4
      have ef : (f != f) = false := by simp
      have eb : (b != b) = false := by simp
      clear b3 b4 r4 H3 N3 s4
      go_upto_region 15 with fail
      clear z0 z1 z2 ef eb
      generalize w3.alloc (.cells #[.int .i64 f, .int .i64 b, .int .i64 g2] 23) = W4 at H4 N4 HS4 ⊢
      have H5 : Hid (Ke w W4 [(w.heap.size, ⟨f, b, g⟩)]) := Lib.hid ⟨fun r hr => H4.out.1 r (by rw [List.mem_append]; exact .inl hr), H4.out.2⟩
      clear H4
      by_cases h6 : n6 = 0
      · subst h6
        have hT4 : Tb W4.drew := H5.out.2.2
        have B4 : Below w.heap.size w W4.drew := H5.out.2.1.drew
        clear HH RL RH HX HR N4 HS4 K6 N6 HN6 H2 H5 cA hz e1 e3 hg hk hkn l5 l6 s3
        refine wp_region_any (by kernel_rfl) ?_
        change wpAny _ _ _ _ _ _ _ (World.drew _)
        refine wpAny_take (i := 0) (v := .slice A6 0 c6) rfl (by kernel_rfl) (by kernel_rfl) (by kernel_rfl) (fun _ _ _ h => h) (Or.inl ⟨by kernel_rfl, fun W => by go_simp⟩) ?_
        refine wpAny_take (i := 1) (v := .int .i64 0) rfl (by kernel_rfl) (by kernel_rfl) (by kernel_rfl) (fun _ _ _ h => h) (Or.inl ⟨by kernel_rfl, fun W => by go_simp⟩) ?_
        refine wpAny_take (i := 2) (v := .bool true) rfl (by kernel_rfl) (by kernel_rfl) (by kernel_rfl) (fun _ _ _ h => h) (Or.inl ⟨by kernel_rfl, fun W => by go_simp⟩) ?_
        refine wpAny_take (i := 3) (v := .bool true) rfl (by kernel_rfl) (by kernel_rfl) (by kernel_rfl) (fun _ _ _ h => h) (Or.inl ⟨by kernel_rfl, fun W => by go_simp⟩) ?_
        refine wpAny_take (i := 4) (v := undef) rfl (by kernel_rfl) (by kernel_rfl) (by kernel_rfl) (fun _ _ _ h => h) (Or.inr ⟨by kernel_rfl, rfl⟩) ?_
        refine wpAny_take (i := 5) (v := undef) rfl (by kernel_rfl) (by kernel_rfl) (by kernel_rfl) (fun _ _ _ h => h) (Or.inr ⟨by kernel_rfl, rfl⟩) ?_
        refine wpAny_take (i := 6) (v := undef) rfl (by kernel_rfl) (by kernel_rfl) (by kernel_rfl) (fun _ _ _ h => h) (Or.inr ⟨by kernel_rfl, rfl⟩) ?_
        refine wpAny_take (i := 7) (v := undef) rfl (by kernel_rfl) (by kernel_rfl) (by kernel_rfl) (fun _ _ _ h => h) (Or.inr ⟨by kernel_rfl, rfl⟩) ?_
        refine wpAny_take (i := 8) (v := undef) rfl (by kernel_rfl) (by kernel_rfl) (by kernel_rfl) (fun _ _ _ h => h) (Or.inr ⟨by kernel_rfl, rfl⟩) ?_
        refine wpAny_take (i := 9) (v := undef) rfl (by kernel_rfl) (by kernel_rfl) (by kernel_rfl) (fun _ _ _ h => h) (Or.inr ⟨by kernel_rfl, rfl⟩) ?_
        refine wpAny_take (i := 10) (v := undef) rfl (by kernel_rfl) (by kernel_rfl) (by kernel_rfl) (fun _ _ _ h => h) (Or.inr ⟨by kernel_rfl, rfl⟩) ?_
        refine wpAny_take (i := 11) (v := .bool true) rfl (by kernel_rfl) (by kernel_rfl) (by kernel_rfl) (fun _ _ _ h => h) (Or.inl ⟨by kernel_rfl, fun W => by go_simp⟩) ?_
        refine wpAny_take (i := 12) (v := .bool true) rfl (by kernel_rfl) (by kernel_rfl) (by kernel_rfl) (fun _ _ _ h => h) (Or.inl ⟨by kernel_rfl, fun W => by go_simp⟩) ?_
        refine wpAny_ready (rs := [13]) (by kernel_rfl) (by simp) ?_
        refine AllReady.cons rfl (fun K hK => ?_) AllReady.nil
        go_simp
        refine (awake_any _ hT4).mono ?_
        rintro e w5 ⟨rfl, b5⟩
        refine hK _ _ ?_
        clear hK K
        refine wpAny_take (i := 14) (v := .bool true) rfl (by kernel_rfl) (by kernel_rfl) (by kernel_rfl) (fun _ _ _ h => h) (Or.inl ⟨by kernel_rfl, fun W => by go_simp⟩) ?_
        refine wpAny_take (i := 15) (v := .bool true) rfl (by kernel_rfl) (by kernel_rfl) (by kernel_rfl) (fun _ _ _ h => h) (Or.inl ⟨by kernel_rfl, fun W => by go_simp⟩) ?_
        refine wpAny_done (by kernel_rfl) ?_ _
        go_simp
        go_wp2
        go_ret
        exact ⟨rfl, B4.trans (b5.mono B4.size)⟩
      · have e6 : ((n6 : Int) == 0) = false := by simp [h6]
        have HG := Lib.hid (HH.out (by rw [HN6.out]; exact h6))
        have keep : ∀ {W W' : World}, (W.cell? ⟨w.heap.size, 0, none⟩ = some (.int .i64 f) ∧ W.cell? ⟨w.heap.size, 1, none⟩ = some (.int .i64 b) ∧ W.cell? ⟨w.heap.size, 2, none⟩ = some (.int .i64 g) ∧ Aside (Ke w W [(w.heap.size, ⟨f, b, g⟩)] ∧ wr.heap.size ≤ W.heap.size ∧ Nums W wr.heap.size A6 n6 (highs xs))) → Below W.heap.size W W' → (W'.cell? ⟨w.heap.size, 0, none⟩ = some (.int .i64 f) ∧ W'.cell? ⟨w.heap.size, 1, none⟩ = some (.int .i64 b) ∧ W'.cell? ⟨w.heap.size, 2, none⟩ = some (.int .i64 g) ∧ Aside (Ke w W' [(w.heap.size, ⟨f, b, g⟩)] ∧ wr.heap.size ≤ W'.heap.size ∧ Nums W' wr.heap.size A6 n6 (highs xs))) := by
          intro W W' h hb
          have q := h.2.2.2.out.1.below hb
          have r := q.rec 0 rfl
          exact ⟨r.c0, r.c1, r.c2, ⟨q, Nat.le_trans h.2.2.2.out.2.1 hb.size, h.2.2.2.out.2.2.below hb h.2.2.2.out.2.1⟩⟩
        have hc1 : ∀ W : World, (W.cell? ⟨w.heap.size, 0, none⟩ = some (.int .i64 f) ∧ W.cell? ⟨w.heap.size, 1, none⟩ = some (.int .i64 b) ∧ W.cell? ⟨w.heap.size, 2, none⟩ = some (.int .i64 g) ∧ Aside (Ke w W [(w.heap.size, ⟨f, b, g⟩)] ∧ wr.heap.size ≤ W.heap.size ∧ Nums W wr.heap.size A6 n6 (highs xs))) → Calls Tryd.prog 13 #[.agg #[.int .i64 f, .int .i64 b, .int .i64 g], .slice A6 n6 c6] W fun e w' => (∃ f3 b3, e = .returned (.agg #[.int .i64 f3, .int .i64 b3, .int .i64 g])) ∧ Below W.heap.size W w' := by
          intro W h
          have q := apply_any A6 n6 c6 wr.heap.size (highs xs) ⟨f, b, g⟩ W h.2.2.2.out.2.1 h.2.2.2.out.2.2 K6.out (by omega) (fun z hz => by have := RH.out z hz; omega) h.2.2.2.out.1.2.2
          refine q.mono fun e w' ⟨he, hb⟩ => ⟨⟨(At.apply ⟨f, b, g⟩ (highs xs)).f, (At.apply ⟨f, b, g⟩ (highs xs)).b, ?_⟩, hb⟩
          rw [he, av, HG.out]
        have hcW : ∀ W : World, (W.cell? ⟨w.heap.size, 0, none⟩ = some (.int .i64 f) ∧ W.cell? ⟨w.heap.size, 1, none⟩ = some (.int .i64 b) ∧ W.cell? ⟨w.heap.size, 2, none⟩ = some (.int .i64 g) ∧ Aside (Ke w W [(w.heap.size, ⟨f, b, g⟩)] ∧ wr.heap.size ≤ W.heap.size ∧ Nums W wr.heap.size A6 n6 (highs xs))) → Calls Tryd.prog 12 #[] W fun e w' => e = .returned (.bool true) ∧ Below W.heap.size W w' := fun W h => awake_any W h.2.2.2.out.1.2.2
        have k5 : Ke w W4.drew [(w.heap.size, ⟨f, b, g⟩)] := H5.out.drew
        have ra := k5.rec 0 rfl
        have hS5 : W4.drew.cell? ⟨w.heap.size, 0, none⟩ = some (.int .i64 f) ∧ W4.drew.cell? ⟨w.heap.size, 1, none⟩ = some (.int .i64 b) ∧ W4.drew.cell? ⟨w.heap.size, 2, none⟩ = some (.int .i64 g) ∧ Aside (Ke w W4.drew [(w.heap.size, ⟨f, b, g⟩)] ∧ wr.heap.size ≤ W4.drew.heap.size ∧ Nums W4.drew wr.heap.size A6 n6 (highs xs)) := ⟨ra.c0, ra.c1, ra.c2, ⟨k5, HS4.out, N4.out⟩⟩
        have eg : (g == g) = true := by simp
        have hfd : ∀ (x y z : Int) (W : World), (Instr.field 23 (.agg #[.int .i64 x, .int .i64 y, .int .i64 z]) 2).run Tryd.prog W = .ok (.int .i64 z) W := fun _ _ _ _ => by kernel_rfl
        clear H5 k5 ra N4 HS4 HH HG H2 N6
        go_region_held3 (fun W => W.cell? ⟨w.heap.size, 0, none⟩ = some (.int .i64 f) ∧ W.cell? ⟨w.heap.size, 1, none⟩ = some (.int .i64 b) ∧ W.cell? ⟨w.heap.size, 2, none⟩ = some (.int .i64 g) ∧ Aside (Ke w W [(w.heap.size, ⟨f, b, g⟩)] ∧ wr.heap.size ≤ W.heap.size ∧ Nums W wr.heap.size A6 n6 (highs xs)))
          (assumption)
          (first | (go_at_call 13; refine (hc1 _ (by assumption)).mono ?_; rintro e w' ⟨⟨f3, b3, rfl⟩, hb'⟩; have hs' := keep (by assumption) hb') | (go_at_call 12; refine (hcW _ (by assumption)).mono ?_; rintro e w' ⟨rfl, hb'⟩; have hs' := keep (by assumption) hb'))
        go_wp2
        go_ret
        exact ⟨rfl, hs'.2.2.2.out.1.2.1⟩

set_option maxHeartbeats 1000000 in
set_option maxRecDepth 100000 in
theorem indep_walk (a : At.R) (A : Option Addr) (n c : Nat) (xs : List Int) (w : World) (hX : Byts w w.heap.size A n xs) (_ : n ≤ 9223372036854775807) (hr : ∀ z ∈ xs, 0 ≤ z ∧ z ≤ 255) (hT : Tb w) :
    Calls Tryd.prog 7 #[av a, .slice A n c] w fun e w' => e = .returned (.bool true) ∧ Below w.heap.size w w' := by
  have h0 := (Ke.start hT).more a
  rw [List.nil_append] at h0
  have H0 := Lib.hid h0
  clear h0
  by_cases ha : At.ok a
  · by_cases h1 : n = 0
    · subst h1
      have cA := Lib.hid (fun W h => check_yes a W h ha)
      obtain ⟨f, b, g⟩ := a
      clear hX hr ha
      go_enter Tryd.func7, Tryd.ntmps7
      go_wp2_with fail
      refine (cA.out _ H0.out.2.2).mono ?_
      rintro e w1 ⟨rfl, b1⟩
      have H1 := Lib.hid (H0.out.below b1)
      clear b1 H0
      go_wp2_with fail
      refine (awake_any w1 H1.out.2.2).mono ?_
      rintro e w2 ⟨rfl, b2⟩
      go_wp2
      go_ret
      exact ⟨rfl, (H1.out.below b2).2.1⟩
    · by_cases h2 : n ≤ 40
      · exact indep_main a A n c xs w hX hr hT ha (by omega) h2
      · have e1 : ((n : Int) == 0) = false := by simp; omega
        have e3 : (40 : Int) < (n : Int) := by omega
        have cA := Lib.hid (fun W h => check_yes a W h ha)
        obtain ⟨f, b, g⟩ := a
        clear hX hr ha
        go_enter Tryd.func7, Tryd.ntmps7
        go_wp2_with fail
        refine (cA.out _ H0.out.2.2).mono ?_
        rintro e w1 ⟨rfl, b1⟩
        have H1 := Lib.hid (H0.out.below b1)
        clear b1 H0
        go_wp2_with fail
        refine (awake_any w1 H1.out.2.2).mono ?_
        rintro e w2 ⟨rfl, b2⟩
        go_wp2
        go_ret
        exact ⟨rfl, (H1.out.below b2).2.1⟩
  · have cA := Lib.hid (fun W h => check_no a W h ha)
    obtain ⟨f, b, g⟩ := a
    clear hX hr ha
    go_enter Tryd.func7, Tryd.ntmps7
    go_wp2_with fail
    refine (cA.out _ H0.out.2.2).mono ?_
    rintro e w1 ⟨rfl, b1⟩
    have H1 := Lib.hid (H0.out.below b1)
    clear b1 H0
    go_wp2_with fail
    refine (awake_any w1 H1.out.2.2).mono ?_
    rintro e w2 ⟨rfl, b2⟩
    go_wp2
    go_ret
    exact ⟨rfl, (H1.out.below b2).2.1⟩

end Go.Proofs.YtodcjdglnfgdpaaDoor
