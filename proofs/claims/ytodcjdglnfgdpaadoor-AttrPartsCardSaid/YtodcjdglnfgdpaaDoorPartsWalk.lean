/-
  The statement on numbers that are applied in two parts returns true, for every rendition and every two slices of numbers.
-/
import Derived.Test.YtodcjdglnfgdpaaDoorKe
namespace Go.Proofs.YtodcjdglnfgdpaaDoor
open Go.RowKit

/-- Where the statement ends early: the examples of the chapter are asked. -/
theorem getD_mem {xs : List Int} {k : Nat} (h : k < xs.length) : xs.getD k 0 ∈ xs := by
  rw [List.getD_eq_getElem?_getD, List.getElem?_eq_getElem h]
  exact List.getElem_mem h
theorem mem_getD {xs : List Int} {n : Int} (h : n ∈ xs) : ∃ k, k < xs.length ∧ xs.getD k 0 = n := by
  obtain ⟨k, hk, rfl⟩ := List.mem_iff_getElem.1 h
  exact ⟨k, hk, by rw [List.getD_eq_getElem?_getD, List.getElem?_eq_getElem hk]; rfl⟩

set_option maxHeartbeats 4000000 in
set_option maxRecDepth 100000 in
theorem parts_main (a : At.R) (A : Option Addr) (n c : Nat) (xs : List Int) (A' : Option Addr) (n' c' : Nat) (ys : List Int) (w : World) (hX : Nums w w.heap.size A n xs) (kX : A = none → n = 0 ∧ c = 0) (hr : ∀ z ∈ xs, -9223372036854775808 ≤ z ∧ z ≤ 9223372036854775807)
    (hY : Nums w w.heap.size A' n' ys) (kY : A' = none → n' = 0 ∧ c' = 0) (hr' : ∀ z ∈ ys, -9223372036854775808 ≤ z ∧ z ≤ 9223372036854775807) (hT : Tb w) (ha : At.ok a) (h1 : 0 < n) (h2 : 0 < n') (h3 : n + n' ≤ 40) :
    Calls Tryd.prog 8 #[av a, .slice A n c, .slice A' n' c'] w fun e w' => e = .returned (.bool true) ∧ Below w.heap.size w w' := by
  have eq1 := Tryd.stoodInHeld23
  have eq2 := Tryd.eqGuardType23
  have h0 := (Ke.start hT).more a
  rw [List.nil_append] at h0
  have cA := Lib.hid (fun W h => check_yes a W h ha)
  have cX := Lib.hid (fun (a : At.R) (W : World) (rs : List (Nat × At.R)) (h : Ke w W rs) => apply_any A n c w.heap.size xs a W h.2.1.size (h.nums hX) kX (by omega) (fun z hz => (hr z hz).2) h.2.2)
  have cY := Lib.hid (fun (a : At.R) (W : World) (rs : List (Nat × At.R)) (h : Ke w W rs) => apply_any A' n' c' w.heap.size ys a W h.2.1.size (h.nums hY) kY (by omega) (fun z hz => (hr' z hz).2) h.2.2)
  have cZ := Lib.hid (fun (A5 : Option Addr) (n5 c5 B : Nat) (W : World) (hB : B ≤ W.heap.size) (h5 : Nums W B A5 n5 (xs ++ ys)) (k5 : A5 = none → n5 = 0 ∧ c5 = 0) (ht : Tb W) => apply_any A5 n5 c5 B (xs ++ ys) a W hB h5 k5 (by have := h5.1; rw [List.length_append, hX.1, hY.1] at this; omega) (fun z hz => by rw [List.mem_append] at hz; rcases hz with hz | hz; exact (hr z hz).2; exact (hr' z hz).2) ht)
  have HP := Lib.hid (fun h => At.apply_parts a xs ys (by have := hX.1; omega) (by have := hY.1; omega) h)
  have HX := Lib.hid hX
  have HY := Lib.hid hY
  have KX := Lib.hid kX
  have KY := Lib.hid kY
  have H0 := Lib.hid h0
  have e1 : ((n : Int) == 0) = false := by simp; omega
  have e2 : ((n' : Int) == 0) = false := by simp; omega
  have e3 : ¬ (40 : Int) < (n : Int) + (n' : Int) := by omega
  obtain ⟨f, b, g⟩ := a
  clear h0 ha hX hY kX kY hr hr'
  simp only at H0
  go_enter Tryd.func8, Tryd.ntmps8
  go_wp2_with fail
  refine (cA.out _ H0.out.2.2).mono ?_
  rintro e w1 ⟨rfl, b1⟩
  have H1 := Lib.hid (H0.out.below b1)
  clear b1 H0
  go_wp2
  go_loopg [8, 34] n (fun gg _ s34 wr => ∃ k : Nat, k ≤ n ∧ n - k ≤ gg ∧ s34 = .int .i64 k ∧ wr = w1 ∧ Aside (∀ j, j < k → ¬ (xs.getD j 0 = 38 ∨ xs.getD j 0 = 48)))
  case atStart => exact ⟨0, Nat.zero_le _, by omega, rfl, rfl, fun j hj => absurd hj (Nat.not_lt_zero _)⟩
  case round =>
    obtain ⟨k, hk, hg, rfl, rfl, AS⟩ := hrel
    by_cases hkn : k < n
    · have hz : (k : Int) < (n : Int) := by omega
      have hz0 : (0 : Int) ≤ (k : Int) := by omega
      obtain ⟨bb, off, hA, hb, hc⟩ := (H1.out.nums HX.out).2 k hkn
      have hs : Hid (∀ x, xs.getD k 0 = x → ¬ (x = 38 ∨ x = 48) → ∀ j, j < k + 1 → ¬ (xs.getD j 0 = 38 ∨ xs.getD j 0 = 48)) := Lib.hid (fun x e hx j hj => by
        by_cases q : j = k
        · subst q; rw [e]; exact hx
        · exact AS.out j (by omega))
      obtain ⟨x, hx⟩ : ∃ x, xs.getD k 0 = x := ⟨_, rfl⟩
      rw [hx] at hc
      have HS := Lib.hid (hs.out x hx)
      clear hx hs
      subst hA
      by_cases e38 : x = 38
      · subst e38
        go_wp2_with fail
        refine (awake_any wr H1.out.2.2).mono ?_
        rintro e w2 ⟨rfl, b2⟩
        go_wp2
        go_ret
        exact ⟨rfl, (H1.out.below b2).2.1⟩
      · by_cases e48 : x = 48
        · subst e48
          go_wp2_with fail
          refine (awake_any wr H1.out.2.2).mono ?_
          rintro e w2 ⟨rfl, b2⟩
          go_wp2
          go_ret
          exact ⟨rfl, (H1.out.below b2).2.1⟩
        · have f38 : (x == 38) = false := by simp [e38]
          have f48 : (x == 48) = false := by simp [e48]
          go_wp2
          go_roundg (n - (k + 1))
          case measure => omega
          case rel => exact ⟨k + 1, by omega, by omega, by go_num, rfl, HS.out (by omega)⟩
    · have hz : ¬ (k : Int) < (n : Int) := by omega
      have HPP : Hid (At.apply (At.apply ⟨f, b, g⟩ xs) ys = At.apply ⟨f, b, g⟩ (xs ++ ys)) := Lib.hid (HP.out fun z hz => by
        obtain ⟨j, hj, rfl⟩ := mem_getD hz
        exact AS.out j (by have := HX.out.1; omega))
      clear HP AS
      have hl1 : ([] : List Int).length + xs.length ≤ 100000 := by have := HX.out.1; simp; omega
      have hl2 : xs.length + ys.length ≤ 100000 := by have := HX.out.1; have := HY.out.1; omega
      have ho := Lib.hid (Out.laid wr)
      have hx' : Hid (∀ o, Nums (wr.alloc o) w.heap.size A n xs) := Lib.hid fun o => (H1.out.nums HX.out).alloc H1.out.2.1.size o
      have hy' : Hid (∀ w2, Below wr.heap.size wr w2 → Nums w2 w.heap.size A' n' ys) := Lib.hid fun w2 hb => (H1.out.below hb).nums HY.out
      have kX := KX.out
      have kY := KY.out
      go_wp2_with (first | (at_builtin; refine wpList_join rfl (.tmp 46) (.tmp 47) rfl wr _ _ [] xs A n c _ rfl rfl ho.out (hx'.out _) kX hl1 ?_; intro v4 w4 hout4; rw [List.nil_append] at hout4; have HO4 := Lib.hid hout4; clear hout4) | (at_builtin; refine wpList_join rfl (.tmp 48) (.tmp 49) rfl wr _ _ xs ys A' n' c' _ rfl rfl HO4.out (hy'.out _ HO4.out.2) kY hl2 ?_; intro v5 w5 hout5; have HO5 := Lib.hid hout5; clear hout5))
      obtain ⟨A5, c5, hv5⟩ := HO5.out.slice
      obtain ⟨n5, hn5⟩ : ∃ n5, (xs ++ ys).length = n5 := ⟨_, rfl⟩
      rw [hn5] at hv5
      subst hv5
      have g5 := HO5.out.gives
      have H5 := Lib.hid (H1.out.below g5.2.2)
      have N5 := Lib.hid g5.1
      have K5 := Lib.hid g5.2.1
      clear g5 HO4 HO5 ho hx' hy' kX kY hn5 H1
      obtain ⟨a2, ha2⟩ : ∃ a2, At.apply ⟨f, b, g⟩ xs = a2 := ⟨_, rfl⟩
      obtain ⟨a3, ha3⟩ : ∃ a3, At.apply ⟨f, b, g⟩ (xs ++ ys) = a3 := ⟨_, rfl⟩
      rw [ha2, ha3] at HPP
      have E2 := Lib.hid ha2
      have E3 := Lib.hid ha3
      clear ha2 ha3
      obtain ⟨f2, b2, g2⟩ := a2
      obtain ⟨f3, b3, g3⟩ := a3
      have keep : ∀ {W W' : World}, (W.cell? ⟨w.heap.size, 0, none⟩ = some (.int .i64 f) ∧ W.cell? ⟨w.heap.size, 1, none⟩ = some (.int .i64 b) ∧ W.cell? ⟨w.heap.size, 2, none⟩ = some (.int .i64 g) ∧ Aside (Ke w W [(w.heap.size, ⟨f, b, g⟩)] ∧ w5.heap.size ≤ W.heap.size ∧ Nums W w5.heap.size A5 n5 (xs ++ ys))) → Below W.heap.size W W' → (W'.cell? ⟨w.heap.size, 0, none⟩ = some (.int .i64 f) ∧ W'.cell? ⟨w.heap.size, 1, none⟩ = some (.int .i64 b) ∧ W'.cell? ⟨w.heap.size, 2, none⟩ = some (.int .i64 g) ∧ Aside (Ke w W' [(w.heap.size, ⟨f, b, g⟩)] ∧ w5.heap.size ≤ W'.heap.size ∧ Nums W' w5.heap.size A5 n5 (xs ++ ys))) := by
        intro W W' h hb
        have q := h.2.2.2.out.1.below hb
        have r := q.rec 0 rfl
        exact ⟨r.c0, r.c1, r.c2, ⟨q, Nat.le_trans h.2.2.2.out.2.1 hb.size, h.2.2.2.out.2.2.below hb h.2.2.2.out.2.1⟩⟩
      have hc1 : ∀ W : World, (W.cell? ⟨w.heap.size, 0, none⟩ = some (.int .i64 f) ∧ W.cell? ⟨w.heap.size, 1, none⟩ = some (.int .i64 b) ∧ W.cell? ⟨w.heap.size, 2, none⟩ = some (.int .i64 g) ∧ Aside (Ke w W [(w.heap.size, ⟨f, b, g⟩)] ∧ w5.heap.size ≤ W.heap.size ∧ Nums W w5.heap.size A5 n5 (xs ++ ys))) →
          Calls Tryd.prog 13 #[.agg #[.int .i64 f, .int .i64 b, .int .i64 g], .slice A n c] W fun e w' => e = .returned (.agg #[.int .i64 f2, .int .i64 b2, .int .i64 g2]) ∧ Below W.heap.size W w' := by
        intro W h
        have q := cX.out ⟨f, b, g⟩ W _ h.2.2.2.out.1
        rw [E2.out] at q
        exact q
      have hc2 : ∀ W : World, (W.cell? ⟨w.heap.size, 0, none⟩ = some (.int .i64 f) ∧ W.cell? ⟨w.heap.size, 1, none⟩ = some (.int .i64 b) ∧ W.cell? ⟨w.heap.size, 2, none⟩ = some (.int .i64 g) ∧ Aside (Ke w W [(w.heap.size, ⟨f, b, g⟩)] ∧ w5.heap.size ≤ W.heap.size ∧ Nums W w5.heap.size A5 n5 (xs ++ ys))) →
          Calls Tryd.prog 13 #[.agg #[.int .i64 f2, .int .i64 b2, .int .i64 g2], .slice A' n' c'] W fun e w' => e = .returned (.agg #[.int .i64 f3, .int .i64 b3, .int .i64 g3]) ∧ Below W.heap.size W w' := by
        intro W h
        have q := cY.out ⟨f2, b2, g2⟩ W _ h.2.2.2.out.1
        rw [HPP.out] at q
        exact q
      have hc3 : ∀ W : World, (W.cell? ⟨w.heap.size, 0, none⟩ = some (.int .i64 f) ∧ W.cell? ⟨w.heap.size, 1, none⟩ = some (.int .i64 b) ∧ W.cell? ⟨w.heap.size, 2, none⟩ = some (.int .i64 g) ∧ Aside (Ke w W [(w.heap.size, ⟨f, b, g⟩)] ∧ w5.heap.size ≤ W.heap.size ∧ Nums W w5.heap.size A5 n5 (xs ++ ys))) →
          Calls Tryd.prog 13 #[.agg #[.int .i64 f, .int .i64 b, .int .i64 g], .slice A5 n5 c5] W fun e w' => e = .returned (.agg #[.int .i64 f3, .int .i64 b3, .int .i64 g3]) ∧ Below W.heap.size W w' := by
        intro W h
        have q := cZ.out A5 n5 c5 w5.heap.size W h.2.2.2.out.2.1 h.2.2.2.out.2.2 K5.out h.2.2.2.out.1.2.2
        rw [E3.out] at q
        exact q
      have hcW : ∀ W : World, (W.cell? ⟨w.heap.size, 0, none⟩ = some (.int .i64 f) ∧ W.cell? ⟨w.heap.size, 1, none⟩ = some (.int .i64 b) ∧ W.cell? ⟨w.heap.size, 2, none⟩ = some (.int .i64 g) ∧ Aside (Ke w W [(w.heap.size, ⟨f, b, g⟩)] ∧ w5.heap.size ≤ W.heap.size ∧ Nums W w5.heap.size A5 n5 (xs ++ ys))) → Calls Tryd.prog 12 #[] W fun e w' => e = .returned (.bool true) ∧ Below W.heap.size W w' := fun W h => awake_any W h.2.2.2.out.1.2.2
      have hS5 : w5.drew.cell? ⟨w.heap.size, 0, none⟩ = some (.int .i64 f) ∧ w5.drew.cell? ⟨w.heap.size, 1, none⟩ = some (.int .i64 b) ∧ w5.drew.cell? ⟨w.heap.size, 2, none⟩ = some (.int .i64 g) ∧ Aside (Ke w w5.drew [(w.heap.size, ⟨f, b, g⟩)] ∧ w5.heap.size ≤ w5.drew.heap.size ∧ Nums w5.drew w5.heap.size A5 n5 (xs ++ ys)) := ⟨(H5.out.rec 0 rfl).c0, (H5.out.rec 0 rfl).c1, (H5.out.rec 0 rfl).c2, ⟨H5.out.drew, Nat.le_refl _, N5.out⟩⟩
      clear H5 N5 cA cX cY cZ HPP
      go_wp2_with fail
      go_region_held3 (fun W => W.cell? ⟨w.heap.size, 0, none⟩ = some (.int .i64 f) ∧ W.cell? ⟨w.heap.size, 1, none⟩ = some (.int .i64 b) ∧ W.cell? ⟨w.heap.size, 2, none⟩ = some (.int .i64 g) ∧ Aside (Ke w W [(w.heap.size, ⟨f, b, g⟩)] ∧ w5.heap.size ≤ W.heap.size ∧ Nums W w5.heap.size A5 n5 (xs ++ ys)))
        (assumption)
        (first | (go_at_call 13; (with_reducible refine (hc1 _ (by assumption)).mono ?_); rintro e w' ⟨rfl, hb'⟩; have hs' := keep (by assumption) hb') | (go_at_call 13; (with_reducible refine (hc2 _ (by assumption)).mono ?_); rintro e w' ⟨rfl, hb'⟩; have hs' := keep (by assumption) hb') | (go_at_call 13; (with_reducible refine (hc3 _ (by assumption)).mono ?_); rintro e w' ⟨rfl, hb'⟩; have hs' := keep (by assumption) hb') | (go_at_call 12; refine (hcW _ (by assumption)).mono ?_; rintro e w' ⟨rfl, hb'⟩; have hs' := keep (by assumption) hb'))
      all_goals
        go_wp2
        go_ret
        exact ⟨rfl, hs'.2.2.2.out.1.2.1⟩

set_option maxHeartbeats 4000000 in
set_option maxRecDepth 100000 in
theorem parts_walk (a : At.R) (A : Option Addr) (n c : Nat) (xs : List Int) (A' : Option Addr) (n' c' : Nat) (ys : List Int) (w : World) (hX : Nums w w.heap.size A n xs) (kX : A = none → n = 0 ∧ c = 0) (hn : n ≤ 140737488351232) (hr : ∀ z ∈ xs, -9223372036854775808 ≤ z ∧ z ≤ 9223372036854775807)
    (hY : Nums w w.heap.size A' n' ys) (kY : A' = none → n' = 0 ∧ c' = 0) (hn' : n' ≤ 140737488351232) (hr' : ∀ z ∈ ys, -9223372036854775808 ≤ z ∧ z ≤ 9223372036854775807) (hT : Tb w) :
    Calls Tryd.prog 8 #[av a, .slice A n c, .slice A' n' c'] w fun e w' => e = .returned (.bool true) ∧ Below w.heap.size w w' := by
  have h0 := (Ke.start hT).more a
  rw [List.nil_append] at h0
  have H0 := Lib.hid h0
  clear h0
  by_cases ha : At.ok a
  · by_cases h1 : n = 0
    · subst h1
      have cA := Lib.hid (fun W h => check_yes a W h ha)
      obtain ⟨f, b, g⟩ := a
      clear hX hY kX kY hr hr' ha
      go_enter Tryd.func8, Tryd.ntmps8
      go_wp2_with fail
      refine (cA.out _ H0.out.2.2).mono ?_
      rintro e w1 ⟨rfl, b1⟩
      have H1 := Lib.hid (H0.out.below b1)
      clear b1 H0
      go_wp2_with fail
      refine (awake_any w1 H1.out.2.2).mono ?_
      rintro e w2 ⟨rfl, b2⟩
      go_wp2
      go_ret
      exact ⟨rfl, (H1.out.below b2).2.1⟩
    · by_cases h2 : n' = 0
      · subst h2
        have e1 : ((n : Int) == 0) = false := by simp; omega
        have cA := Lib.hid (fun W h => check_yes a W h ha)
        obtain ⟨f, b, g⟩ := a
        clear hX hY kX kY hr hr' ha
        go_enter Tryd.func8, Tryd.ntmps8
        go_wp2_with fail
        refine (cA.out _ H0.out.2.2).mono ?_
        rintro e w1 ⟨rfl, b1⟩
        have H1 := Lib.hid (H0.out.below b1)
        clear b1 H0
        go_wp2_with fail
        refine (awake_any w1 H1.out.2.2).mono ?_
        rintro e w2 ⟨rfl, b2⟩
        go_wp2
        go_ret
        exact ⟨rfl, (H1.out.below b2).2.1⟩
      · by_cases h3 : n + n' ≤ 40
        · exact parts_main a A n c xs A' n' c' ys w hX kX hr hY kY hr' hT ha (by omega) (by omega) h3
        · have e1 : ((n : Int) == 0) = false := by simp; omega
          have e2 : ((n' : Int) == 0) = false := by simp; omega
          have e3 : (40 : Int) < (n : Int) + (n' : Int) := by omega
          have cA := Lib.hid (fun W h => check_yes a W h ha)
          obtain ⟨f, b, g⟩ := a
          clear hX hY kX kY hr hr' ha
          go_enter Tryd.func8, Tryd.ntmps8
          go_wp2_with fail
          refine (cA.out _ H0.out.2.2).mono ?_
          rintro e w1 ⟨rfl, b1⟩
          have H1 := Lib.hid (H0.out.below b1)
          clear b1 H0
          go_wp2_with fail
          refine (awake_any w1 H1.out.2.2).mono ?_
          rintro e w2 ⟨rfl, b2⟩
          go_wp2
          go_ret
          exact ⟨rfl, (H1.out.below b2).2.1⟩
  · have cA := Lib.hid (fun W h => check_no a W h ha)
    obtain ⟨f, b, g⟩ := a
    clear hX hY kX kY hr hr' ha
    go_enter Tryd.func8, Tryd.ntmps8
    go_wp2_with fail
    refine (cA.out _ H0.out.2.2).mono ?_
    rintro e w1 ⟨rfl, b1⟩
    have H1 := Lib.hid (H0.out.below b1)
    clear b1 H0
    go_wp2_with fail
    refine (awake_any w1 H1.out.2.2).mono ?_
    rintro e w2 ⟨rfl, b2⟩
    go_wp2
    go_ret
    exact ⟨rfl, (H1.out.below b2).2.1⟩

end Go.Proofs.YtodcjdglnfgdpaaDoor
