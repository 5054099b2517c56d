/-
  What the document's own paint and Params return.
-/
import Derived.Test.YtodcjdglnfgdpaaDoorRefSmall
namespace Go.Proofs.YtodcjdglnfgdpaaDoor
open Go.RowKit

set_option maxHeartbeats 400000 in
set_option maxRecDepth 100000 in
theorem paint_any (c o : Int) (w : World) (h0 : -1 ≤ c) (h1 : c ≤ 255) (lo hi wd : Int) (e1 : lo = 30 + o) (e2 : hi = 82 + o) (e3 : wd = 38 + o) (h2 : 0 ≤ o) (h3 : o ≤ 10) :
    Calls Tryd.prog 35 #[.int .i64 c, .int .i64 lo, .int .i64 hi, .int .i64 wd] w fun e w' => ∃ A n cap, e = .returned (.slice A n cap) ∧ Gives w w' A n cap (At.cn c o) := by
  obtain ⟨zs, hz⟩ : ∃ zs, At.cn c o = zs := ⟨_, rfl⟩
  rw [hz]
  unfold At.cn at hz
  have l0 : 0 ≤ lo := by omega
  have l1 : lo ≤ 40 := by omega
  have u0 : 0 ≤ hi := by omega
  have u1 : hi ≤ 92 := by omega
  have E1 := Lib.hid e1
  have E2 := Lib.hid e2
  have E3 := Lib.hid e3
  clear e1 e2 e3
  by_cases a1 : c ≤ -1
  · rw [if_pos a1] at hz
    subst hz
    have b1 : c < 0 := by omega
    go_enter Tryd.func35, Tryd.ntmps35
    go_wp2
    go_ret
    exact ⟨none, 0, 0, rfl, (Out.start w).gives⟩
  · rw [if_neg a1] at hz
    have b1 : ¬ c < 0 := by omega
    by_cases a2 : c < 8
    · rw [if_pos a2] at hz
      subst hz
      go_enter Tryd.func35, Tryd.ntmps35
      go_wp2
      go_ret
      refine ⟨_, _, _, rfl, ?_⟩
      have q := (Out.made w [lo + c] (by simp)).gives
      rwa [show lo + c = 30 + o + c by have := E1.out; omega] at q ⊢
    · rw [if_neg a2] at hz
      by_cases a3 : c < 16
      · rw [if_pos a3] at hz
        subst hz
        go_enter Tryd.func35, Tryd.ntmps35
        go_wp2
        go_ret
        refine ⟨_, _, _, rfl, ?_⟩
        have q := (Out.made w [hi + c] (by simp)).gives
        rwa [show hi + c = 90 + o + c - 8 by have := E2.out; omega] at q ⊢
      · rw [if_neg a3] at hz
        subst hz
        go_enter Tryd.func35, Tryd.ntmps35
        go_wp2
        go_ret
        refine ⟨_, _, _, rfl, ?_⟩
        have q := (Out.made w [wd, 5, c] (by simp)).gives
        rwa [show wd = 38 + o from E3.out] at q ⊢

/-- A flag, by halving. -/
theorem halved : ∀ (x : Fin 256) (k : Fin 8), (((x : Nat) : Int) / (2 : Int) ^ (k : Nat) % 2 == 1) = (bits .and .i64 ((x : Nat) : Int) (At.tb.getD k (0, 0, 0)).1 != 0) := by decide +kernel

set_option maxHeartbeats 2000000 in
set_option maxRecDepth 100000 in
theorem refParams_any (a : At.R) (w : World) (ha : At.ok a) :
    Calls Tryd.prog 18 #[av a] w fun e w' => ∃ A n cap, e = .returned (.slice A n cap) ∧ Gives w w' A n cap (At.params a) := by
  obtain ⟨f, b, g⟩ := a
  obtain ⟨W1, hW1⟩ : ∃ W1, w.alloc (.cells #[.int .i64 f, .int .i64 b, .int .i64 g] 23) = W1 := ⟨_, rfl⟩
  have hrec : Rec W1 w.heap.size ⟨f, b, g⟩ := hW1 ▸ Rec.laid w ⟨f, b, g⟩
  have hb1 : Below w.heap.size w W1 := hW1 ▸ (Below.refl _ w).alloc (Nat.le_refl _) _
  have ho1 : Out W1 (W1.alloc (.cells #[.int .i64 0] 3)) (.slice (some ⟨W1.heap.size, 0, none⟩) 1 1) [0] := Out.made W1 [0] (by decide)
  have c2 := (hrec.below ho1.2).c2
  obtain ⟨x, hx⟩ := At.fin_of ha.2.2
  have HV : Hid (∀ k, k < 8 → (g / (2 : Int) ^ k % 2 == 1) = (bits .and .i64 g (At.tb.getD k (0, 0, 0)).1 != 0)) := Lib.hid (fun k hk => by
    have := halved x ⟨k, hk⟩
    simp only at hx
    rw [← hx] at this
    exact this)
  have g0 : 0 ≤ g := ha.2.2.1
  have g1 : g ≤ 255 := ha.2.2.2
  have HO := Lib.hid ho1
  have HREC := Lib.hid hrec
  have HB := Lib.hid hb1
  have HA := Lib.hid ha
  clear ho1 hrec hb1 ha hx
  go_enter Tryd.func18, Tryd.ntmps18
  go_wp2
  clear hW1 c2
  go_loopg [3, 4, 5] 8 (fun gg s3 s4 s5 wr => ∃ (k : Nat) (y : Int), k ≤ 8 ∧ 8 - k ≤ gg ∧ s5 = .int .i64 k ∧ s4 = .int .i64 y ∧ Aside (y = g / (2 : Int) ^ k) ∧ Aside (Out W1 wr s3 (0 :: codesK g k)))
  case atStart => exact ⟨0, g, by omega, by omega, rfl, rfl, (by simp : g = g / (2 : Int) ^ 0), HO.out⟩
  case round =>
    obtain ⟨k, y, hk, hg, rfl, rfl, Y, OW⟩ := hrel
    have r2 := HREC.out.below OW.out.2
    by_cases hk8 : k < 8
    · have hz : (k : Int) < 8 := by omega
      have hz0 : (0 : Int) ≤ (k : Int) := by omega
      have hst := Lib.hid (codesK_step g k hk8)
      have hv := HV.out k hk8
      rw [← Y.out] at hv
      have cc := code_any k hk8 wr
      rw [← hv] at hst
      obtain ⟨t, ht⟩ : ∃ t, At.tb.getD k (0, 0, 0) = t := ⟨_, rfl⟩
      rw [ht] at hst cc
      clear ht hv
      obtain ⟨t1, t2, t3⟩ := t
      have hlen : (0 :: codesK g k).length ≤ 100000 := by have := codesK_len g k; simp; omega
      have hp := pow_small k (by omega)
      have y0 : 0 ≤ y := by rw [Y.out]; exact Int.ediv_nonneg g0 (by omega)
      have y1 : y ≤ 255 := by rw [Y.out]; exact Int.le_trans (Int.ediv_le_self _ g0) g1
      have HY2 : Hid (y / 2 = g / (2 : Int) ^ (k + 1)) := Lib.hid (by rw [Y.out, Int.pow_succ, Int.ediv_ediv_of_nonneg (by omega)])
      have hd : y.tdiv 2 = y / 2 := Int.tdiv_eq_ediv_of_nonneg y0
      have hm : y.tmod 2 = y % 2 := Int.tmod_eq_emod_of_nonneg y0
      clear r2 hp Y
      cases hq : (y % 2 == 1)
      · rw [hq] at hst
        go_wp2
        go_roundg (8 - (k + 1))
        case measure => omega
        case rel =>
          refine ⟨k + 1, y / 2, by omega, by omega, by go_num, rfl, HY2.out, ?_⟩
          unfold Aside
          rw [hst.out]
          simpa using OW.out
      · rw [hq] at hst
        go_wp2_with (first | (go_at_call 34; refine cc.mono ?_; rintro e w' ⟨rfl, rfl⟩) | (at_builtin; refine wpList_push rfl (.tmp 16) (.tmp 19) rfl W1 _ _ (0 :: codesK g k) _ rfl rfl OW.out hlen ?_; intro v4 w4 hout4; have HO4 := Lib.hid hout4; clear hout4))
        go_roundg (8 - (k + 1))
        case measure => omega
        case rel =>
          refine ⟨k + 1, y / 2, by omega, by omega, by go_num, rfl, HY2.out, ?_⟩
          unfold Aside
          rw [hst.out]
          simpa using HO4.out
    · have hz : ¬ (k : Int) < 8 := by omega
      obtain rfl : k = 8 := by omega
      clear Y
      have cF := fun W => paint_any f 0 W HA.out.1.1 HA.out.1.2 30 82 38 rfl rfl rfl (by decide) (by decide)
      have cB := fun W => paint_any b 10 W HA.out.2.1.1 HA.out.2.1.2 40 92 48 rfl rfl rfl (by decide) (by decide)
      have r0 := r2.c0
      have l1 : (0 :: codesK g 8).length + (At.cn f 0).length ≤ 100000 := by
        have := codesK_len g 8
        have := cn_len f 0
        simp only [List.length_cons]
        omega
      have l2 : (0 :: codesK g 8 ++ At.cn f 0).length + (At.cn b 10).length ≤ 100000 := by
        have := cn_len b 10
        rw [List.length_append]
        simp only [List.length_cons] at l1 ⊢
        have := codesK_len g 8
        have := cn_len f 0
        omega
      have hfin : Hid (At.params ⟨f, b, g⟩ = 0 :: codesK g 8 ++ At.cn f 0 ++ At.cn b 10) := Lib.hid rfl
      generalize At.cn f 0 = fs at cF l1 l2 hfin
      generalize At.cn b 10 = bs at cB l2 hfin
      generalize 0 :: codesK g 8 = cs at l1 l2 hfin OW
      go_wp2_with fail
      refine (cF wr).mono ?_
      rintro e w2 ⟨A2, n2, c2, rfl, g2⟩
      have O2 := Lib.hid (OW.out.below g2.2.2)
      have N2 := Lib.hid g2.1
      have K2 := g2.2.1
      clear g2 r0 r2
      go_wp2_with (first | (go_at_call 35; fail) | (at_builtin; refine wpList_join rfl (.tmp 23) (.tmp 26) rfl W1 _ _ cs fs A2 n2 c2 _ rfl rfl O2.out N2.out K2 l1 ?_; intro v3 w3 hout3; have r1 := (HREC.out.below hout3.2).c1; have O3 := Lib.hid hout3; clear hout3))
      refine (cB w3).mono ?_
      rintro e w4 ⟨A4, n4, c4, rfl, g4⟩
      have O4 := Lib.hid (O3.out.below g4.2.2)
      have N4 := Lib.hid g4.1
      have K4 := g4.2.1
      clear g4 r1
      go_wp2_with (at_builtin; refine wpList_join rfl (.tmp 28) (.tmp 31) rfl W1 _ _ (cs ++ fs) bs A4 n4 c4 _ rfl rfl O4.out N4.out K4 l2 ?_; intro v5 w5 hout5; have O5 := Lib.hid hout5; clear hout5)
      go_ret
      obtain ⟨A5, c5, e5⟩ := O5.out.slice
      subst e5
      have g5 := O5.out.gives
      exact ⟨A5, _, c5, rfl, by rw [hfin.out]; exact ⟨g5.1, g5.2.1, HB.out.trans (g5.2.2.mono HB.out.size)⟩⟩

end Go.Proofs.YtodcjdglnfgdpaaDoor
