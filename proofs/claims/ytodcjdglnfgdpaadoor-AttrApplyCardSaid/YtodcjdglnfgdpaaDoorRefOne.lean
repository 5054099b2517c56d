/-
  What the document's own one returns, for every proper rendition and every number that is not negative.
-/
import Derived.Test.YtodcjdglnfgdpaaDoorRefApply
namespace Go.Proofs.YtodcjdglnfgdpaaDoor
open Go.RowKit

theorem res_one (tmps : Array Value) (w : World) (k : Nat) (a : At.R) (hp : tmps.getD 4 undef = .pointer (some ⟨k, 0, none⟩)) (h : Rec w k a) :
    (results Tryd.f29 tmps).run Tryd.prog w = .ok (.agg #[.int .i64 a.f, .int .i64 a.b, .int .i64 a.g]) w :=
  results_cell_row Tryd.results29 tmps w k 23 _ (0, 0) _ hp h Tryd.underlying23 rfl (by kernel_rfl)

/-- The rendition of the call, and the place of its result. -/
def On (w wr : World) (a : At.R) : Prop := Rec wr w.heap.size a ∧ Rec wr (w.heap.size + 1) ⟨0, 0, 0⟩ ∧ Below w.heap.size w wr
theorem On.below {w wr w' : World} {a : At.R} (h : On w wr a) (hb : Below wr.heap.size wr w') : On w w' a := ⟨h.1.below hb, h.2.1.below hb, h.2.2.trans (hb.mono h.2.2.size)⟩
theorem On.s0 {w wr : World} {a : At.R} (h : On w wr a) (x : Int) : On w (wr.setCell ⟨w.heap.size, 0, none⟩ (.int .i64 x)) ⟨x, a.b, a.g⟩ := ⟨h.1.s0 x, h.2.1.other (by omega) _, h.2.2.setCell (Nat.le_refl _) _⟩
theorem On.s1 {w wr : World} {a : At.R} (h : On w wr a) (x : Int) : On w (wr.setCell ⟨w.heap.size, 1, none⟩ (.int .i64 x)) ⟨a.f, x, a.g⟩ := ⟨h.1.s1 x, h.2.1.other (by omega) _, h.2.2.setCell (Nat.le_refl _) _⟩
theorem On.s2 {w wr : World} {a : At.R} (h : On w wr a) (x : Int) : On w (wr.setCell ⟨w.heap.size, 2, none⟩ (.int .i64 x)) ⟨a.f, a.b, x⟩ := ⟨h.1.s2 x, h.2.1.other (by omega) _, h.2.2.setCell (Nat.le_refl _) _⟩
theorem On.start (w : World) (a : At.R) : On w ((w.alloc (.cells #[.int .i64 a.f, .int .i64 a.b, .int .i64 a.g] 23)).alloc (.cells #[.int .i64 0, .int .i64 0, .int .i64 0] 23)) a := by
  have h2 := Rec.laid (w.alloc (.cells #[.int .i64 a.f, .int .i64 a.b, .int .i64 a.g] 23)) ⟨0, 0, 0⟩
  rw [World.size_alloc] at h2
  exact ⟨(Rec.laid w a).alloc _, h2, ((Below.refl w.heap.size w).alloc (Nat.le_refl _) _).alloc (by simp) _⟩
theorem tb_num : ∀ k : Fin 8, (1 ≤ (At.tb.getD k (0, 0, 0)).2.1 ∧ (At.tb.getD k (0, 0, 0)).2.1 ≤ 9) ∧ ((k : Nat) < 2 → (At.tb.getD k (0, 0, 0)).2.2 = 22) ∧ (2 ≤ (k : Nat) → (At.tb.getD k (0, 0, 0)).2.2 = 20 + (At.tb.getD k (0, 0, 0)).2.1) := by decide

set_option maxHeartbeats 4000000 in
set_option maxRecDepth 100000 in
theorem one_any (a : At.R) (n : Int) (w : World) (ha : At.ok a) (n0 : 0 ≤ n) (n1 : n ≤ 9223372036854775807) :
    Calls Tryd.prog 29 #[av a, .int .i64 n] w fun e w' => e = .returned (av (At.step a n)) ∧ Below w.heap.size w w' := by
  obtain ⟨f, b, g⟩ := a
  have HO := Lib.hid (On.start w ⟨f, b, g⟩)
  simp only at HO
  by_cases hn : n = 0
  · subst hn
    go_enter Tryd.func29, Tryd.ntmps29
    go_wp2_with fail
    refine (refDefault_any _).mono ?_
    rintro e w1 ⟨rfl, b1⟩
    have H1 := HO.out.below b1
    have x0 := H1.2.1.c0
    have x1 := H1.2.1.c1
    have x2 := H1.2.1.c2
    have v0 := H1.2.1.z 0
    have v1 := H1.2.1.z 1
    have v2 := H1.2.1.z 2
    have HH := Lib.hid H1
    clear H1 b1 HO
    go_wp2
    refine bodyPost_ret (res_one _ _ _ _ rfl (((HH.out.2.1.s0 (-1)).s1 (-1)).s2 0)) rfl ⟨?_, ?_⟩
    · unfold At.step
      rw [if_pos rfl]
      rfl
    · exact ((HH.out.2.2.setCell (by simp) _).setCell (by simp) _).setCell (by simp) _
  · have hnz : (n == 0) = false := by simp [hn]
    have HG := Lib.hid ha.2.2
    obtain ⟨R, hR⟩ : ∃ R, At.step ⟨f, b, g⟩ n = R := ⟨_, rfl⟩
    rw [hR]
    have HR : Hid (⟨At.col f n, At.col b (n - 10), At.fl g n⟩ = R) := Lib.hid (by rw [← hR, At.step, if_neg hn])
    clear hR ha hn
    go_enter Tryd.func29, Tryd.ntmps29
    go_wp2
    generalize (w.alloc (.cells #[.int .i64 f, .int .i64 b, .int .i64 g] 23)).alloc (.cells #[.int .i64 0, .int .i64 0, .int .i64 0] 23) = W0 at HO ⊢
    go_loopg [5] 8 (fun gg s5 wr => ∃ (k : Nat) (z : Int), k ≤ 8 ∧ 8 - k ≤ gg ∧ s5 = .int .i64 k ∧ Aside (On w wr ⟨f, b, z⟩) ∧ Aside (z = (At.tb.take k).foldl (At.up1 n) g))
    case atStart => exact ⟨0, g, by omega, by omega, rfl, HO.out, (rfl : g = (At.tb.take 0).foldl (At.up1 n) g)⟩
    case round =>
      clear HO
      obtain ⟨k, z, hk, hgg, rfl, OW, Z⟩ := hrel
      have hzr := At.fold_range n k g HG.out
      rw [← Z.out] at hzr
      by_cases hk8 : k < 8
      · have hz : (k : Int) < 8 := by omega
        have hz0 : (0 : Int) ≤ (k : Int) := by omega
        have hst := Lib.hid (At.fold_take n g k hk8)
        rw [← Z.out] at hst
        have cc := fun W => code_any k hk8 W
        have cw1 := fun W => with_any z k true W hzr hk8
        have cw2 := fun W => with_any z k false W hzr hk8
        have ht := tb_num ⟨k, hk8⟩
        simp only at ht
        obtain ⟨t, hte⟩ : ∃ t, At.tb.getD k (0, 0, 0) = t := ⟨_, rfl⟩
        rw [hte] at hst cc cw1 cw2 ht
        clear hte
        obtain ⟨t1, s, c⟩ := t
        simp only [if_true, Bool.false_eq_true, if_false] at cw1 cw2 hst cc ht
        obtain ⟨⟨s0, s1⟩, hc1, hc2⟩ := ht
        obtain ⟨r, hr⟩ : ∃ r, bits .or .i64 z t1 = r := ⟨_, rfl⟩
        obtain ⟨q, hq⟩ : ∃ q, bits .andNot .i64 z t1 = q := ⟨_, rfl⟩
        rw [hr] at cw1
        rw [hq] at cw2
        unfold At.up1 at hst
        simp only [hr, hq] at hst
        have HC1 := Lib.hid hc1
        have HC2 := Lib.hid hc2
        have d2 := OW.out.1.c2
        have v2 := OW.out.1.z 2
        clear hr hq hc1 hc2 Z hzr
        by_cases e1 : n = s
        · have f1 : (n == s) = true := by simp [e1]
          have f2 : (n == 20 + s) = false := by simp; omega
          have f3 : (n == 22) = false := by simp; omega
          rw [if_pos e1] at hst
          clear e1
          go_wp2_with (first | (go_at_call 34; refine (cc _).mono ?_; rintro e w' ⟨rfl, rfl⟩) | (go_at_call 39; refine (cw1 _).mono ?_; rintro e w' ⟨rfl, rfl⟩))
          go_roundg (8 - (k + 1))
          case measure => omega
          case rel => exact ⟨k + 1, r, by omega, by omega, by go_num, OW.out.s2 r, hst.out.symm⟩
        · have f1 : (n == s) = false := by simp [e1]
          rw [if_neg e1] at hst
          by_cases e2 : n = c
          · rw [if_pos e2] at hst
            by_cases k2 : k < 2
            · have g1 : ¬ (1 : Int) < (k : Int) := by omega
              have g2 : (k : Int) < 2 := by omega
              have f3 : (n == 22) = true := by have := HC1.out k2; simp; omega
              clear e1 e2
              cases f2 : (n == 20 + s)
              all_goals
                go_wp2_with (first | (go_at_call 34; refine (cc _).mono ?_; rintro e w' ⟨rfl, rfl⟩) | (go_at_call 39; refine (cw2 _).mono ?_; rintro e w' ⟨rfl, rfl⟩))
                go_roundg (8 - (k + 1))
                case measure => omega
                case rel => exact ⟨k + 1, q, by omega, by omega, by go_num, OW.out.s2 q, hst.out.symm⟩
            · have g1 : (1 : Int) < (k : Int) := by omega
              have f2 : (n == 20 + s) = true := by have := HC2.out (by omega); simp; omega
              clear e1 e2
              go_wp2_with (first | (go_at_call 34; refine (cc _).mono ?_; rintro e w' ⟨rfl, rfl⟩) | (go_at_call 39; refine (cw2 _).mono ?_; rintro e w' ⟨rfl, rfl⟩))
              go_roundg (8 - (k + 1))
              case measure => omega
              case rel => exact ⟨k + 1, q, by omega, by omega, by go_num, OW.out.s2 q, hst.out.symm⟩
          · rw [if_neg e2] at hst
            by_cases k2 : k < 2
            · have g1 : ¬ (1 : Int) < (k : Int) := by omega
              have f3 : (n == 22) = false := by have := HC1.out k2; simp; omega
              clear e1 e2
              cases f2 : (n == 20 + s)
              all_goals
                go_wp2_with (first | (go_at_call 34; refine (cc _).mono ?_; rintro e w' ⟨rfl, rfl⟩))
                go_roundg (8 - (k + 1))
                case measure => omega
                case rel => exact ⟨k + 1, z, by omega, by omega, by go_num, OW.out, hst.out.symm⟩
            · have g2 : ¬ (k : Int) < 2 := by omega
              have f2 : (n == 20 + s) = false := by have := HC2.out (by omega); simp; omega
              clear e1 e2
              cases f3 : (n == 22)
              all_goals
                go_wp2_with (first | (go_at_call 34; refine (cc _).mono ?_; rintro e w' ⟨rfl, rfl⟩))
                go_roundg (8 - (k + 1))
                case measure => omega
                case rel => exact ⟨k + 1, z, by omega, by omega, by go_num, OW.out, hst.out.symm⟩
      · have hz : ¬ (k : Int) < 8 := by omega
        obtain rfl : k = 8 := by omega
        have HZ : Hid (z = At.fl g n) := Lib.hid Z.out
        have d0 := OW.out.1.c0
        have d1 := OW.out.1.c1
        have d2 := OW.out.1.c2
        have v0 := OW.out.1.z 0
        have v1 := OW.out.1.z 1
        have x0 := OW.out.2.1.c0
        have x1 := OW.out.2.1.c1
        have x2 := OW.out.2.1.c2
        have u0 := OW.out.2.1.z 0
        have u1 := OW.out.2.1.z 1
        have u2 := OW.out.2.1.z 2
        have hne : w.heap.size ≠ w.heap.size + 1 := by omega
        clear Z hzr
        by_cases c0 : n ≤ 29
        · have p30 : ¬ 30 ≤ n := by omega
          have p90 : ¬ 90 ≤ n := by omega
          have p40 : ¬ 40 ≤ n := by omega
          have p100 : ¬ 100 ≤ n := by omega
          have r39 : (n == 39) = false := by simp; omega
          have r49 : (n == 49) = false := by simp; omega
          have HRR : Hid (R = ⟨f, b, z⟩) := Lib.hid (by
            rw [← HR.out, ← HZ.out]
            unfold At.col
            apply At.R.eq
            · simp only
              repeat' split
              all_goals first | rfl | omega
            · simp only
              repeat' split
              all_goals first | rfl | omega
            · rfl)
          clear c0
          go_wp2
          have OF := OW.out
          refine bodyPost_ret (res_one _ _ _ _ rfl (((OF.2.1.s0 f).s1 b).s2 z)) rfl ⟨?_, ?_⟩
          · rw [HRR.out]
          · exact ((OF.2.2.setCell (by simp) _).setCell (by simp) _).setCell (by simp) _
        · skip
          by_cases c1 : n ≤ 37
          · have p30 : 30 ≤ n := by omega
            have q30 : n ≤ 37 := by omega
            have p90 : ¬ 90 ≤ n := by omega
            have p40 : ¬ 40 ≤ n := by omega
            have p100 : ¬ 100 ≤ n := by omega
            have r39 : (n == 39) = false := by simp; omega
            have r49 : (n == 49) = false := by simp; omega
            have HRR : Hid (R = ⟨(n - 30), b, z⟩) := Lib.hid (by
              rw [← HR.out, ← HZ.out]
              unfold At.col
              apply At.R.eq
              · simp only
                repeat' split
                all_goals first | rfl | omega
              · simp only
                repeat' split
                all_goals first | rfl | omega
              · rfl)
            clear c0 c1
            go_wp2
            have OF := (OW.out.s0 (n - 30))
            refine bodyPost_ret (res_one _ _ _ _ rfl (((OF.2.1.s0 (n - 30)).s1 b).s2 z)) rfl ⟨?_, ?_⟩
            · rw [HRR.out]
            · exact ((OF.2.2.setCell (by simp) _).setCell (by simp) _).setCell (by simp) _
          · skip
            by_cases c2 : n ≤ 38
            · have p30 : 30 ≤ n := by omega
              have q30 : ¬ n ≤ 37 := by omega
              have p90 : ¬ 90 ≤ n := by omega
              have p40 : ¬ 40 ≤ n := by omega
              have p100 : ¬ 100 ≤ n := by omega
              have r39 : (n == 39) = false := by simp; omega
              have r49 : (n == 49) = false := by simp; omega
              have HRR : Hid (R = ⟨f, b, z⟩) := Lib.hid (by
                rw [← HR.out, ← HZ.out]
                unfold At.col
                apply At.R.eq
                · simp only
                  repeat' split
                  all_goals first | rfl | omega
                · simp only
                  repeat' split
                  all_goals first | rfl | omega
                · rfl)
              clear c0 c1 c2
              go_wp2
              have OF := OW.out
              refine bodyPost_ret (res_one _ _ _ _ rfl (((OF.2.1.s0 f).s1 b).s2 z)) rfl ⟨?_, ?_⟩
              · rw [HRR.out]
              · exact ((OF.2.2.setCell (by simp) _).setCell (by simp) _).setCell (by simp) _
            · skip
              by_cases c3 : n ≤ 39
              · have p30 : 30 ≤ n := by omega
                have q30 : ¬ n ≤ 37 := by omega
                have p90 : ¬ 90 ≤ n := by omega
                have p40 : ¬ 40 ≤ n := by omega
                have p100 : ¬ 100 ≤ n := by omega
                have r39 : (n == 39) = true := by simp; omega
                have r49 : (n == 49) = false := by simp; omega
                have HRR : Hid (R = ⟨(-1), b, z⟩) := Lib.hid (by
                  rw [← HR.out, ← HZ.out]
                  unfold At.col
                  apply At.R.eq
                  · simp only
                    repeat' split
                    all_goals first | rfl | omega
                  · simp only
                    repeat' split
                    all_goals first | rfl | omega
                  · rfl)
                clear c0 c1 c2 c3
                go_wp2
                have OF := (OW.out.s0 (-1))
                refine bodyPost_ret (res_one _ _ _ _ rfl (((OF.2.1.s0 (-1)).s1 b).s2 z)) rfl ⟨?_, ?_⟩
                · rw [HRR.out]
                · exact ((OF.2.2.setCell (by simp) _).setCell (by simp) _).setCell (by simp) _
              · skip
                by_cases c4 : n ≤ 47
                · have p30 : 30 ≤ n := by omega
                  have q30 : ¬ n ≤ 37 := by omega
                  have p90 : ¬ 90 ≤ n := by omega
                  have p40 : 40 ≤ n := by omega
                  have q40 : n ≤ 47 := by omega
                  have p100 : ¬ 100 ≤ n := by omega
                  have r39 : (n == 39) = false := by simp; omega
                  have r49 : (n == 49) = false := by simp; omega
                  have HRR : Hid (R = ⟨f, (n - 40), z⟩) := Lib.hid (by
                    rw [← HR.out, ← HZ.out]
                    unfold At.col
                    apply At.R.eq
                    · simp only
                      repeat' split
                      all_goals first | rfl | omega
                    · simp only
                      repeat' split
                      all_goals first | rfl | omega
                    · rfl)
                  clear c0 c1 c2 c3 c4
                  go_wp2
                  have OF := (OW.out.s1 (n - 40))
                  refine bodyPost_ret (res_one _ _ _ _ rfl (((OF.2.1.s0 f).s1 (n - 40)).s2 z)) rfl ⟨?_, ?_⟩
                  · rw [HRR.out]
                  · exact ((OF.2.2.setCell (by simp) _).setCell (by simp) _).setCell (by simp) _
                · skip
                  by_cases c5 : n ≤ 48
                  · have p30 : 30 ≤ n := by omega
                    have q30 : ¬ n ≤ 37 := by omega
                    have p90 : ¬ 90 ≤ n := by omega
                    have p40 : 40 ≤ n := by omega
                    have q40 : ¬ n ≤ 47 := by omega
                    have p100 : ¬ 100 ≤ n := by omega
                    have r39 : (n == 39) = false := by simp; omega
                    have r49 : (n == 49) = false := by simp; omega
                    have HRR : Hid (R = ⟨f, b, z⟩) := Lib.hid (by
                      rw [← HR.out, ← HZ.out]
                      unfold At.col
                      apply At.R.eq
                      · simp only
                        repeat' split
                        all_goals first | rfl | omega
                      · simp only
                        repeat' split
                        all_goals first | rfl | omega
                      · rfl)
                    clear c0 c1 c2 c3 c4 c5
                    go_wp2
                    have OF := OW.out
                    refine bodyPost_ret (res_one _ _ _ _ rfl (((OF.2.1.s0 f).s1 b).s2 z)) rfl ⟨?_, ?_⟩
                    · rw [HRR.out]
                    · exact ((OF.2.2.setCell (by simp) _).setCell (by simp) _).setCell (by simp) _
                  · skip
                    by_cases c6 : n ≤ 49
                    · have p30 : 30 ≤ n := by omega
                      have q30 : ¬ n ≤ 37 := by omega
                      have p90 : ¬ 90 ≤ n := by omega
                      have p40 : 40 ≤ n := by omega
                      have q40 : ¬ n ≤ 47 := by omega
                      have p100 : ¬ 100 ≤ n := by omega
                      have r39 : (n == 39) = false := by simp; omega
                      have r49 : (n == 49) = true := by simp; omega
                      have HRR : Hid (R = ⟨f, (-1), z⟩) := Lib.hid (by
                        rw [← HR.out, ← HZ.out]
                        unfold At.col
                        apply At.R.eq
                        · simp only
                          repeat' split
                          all_goals first | rfl | omega
                        · simp only
                          repeat' split
                          all_goals first | rfl | omega
                        · rfl)
                      clear c0 c1 c2 c3 c4 c5 c6
                      go_wp2
                      have OF := (OW.out.s1 (-1))
                      refine bodyPost_ret (res_one _ _ _ _ rfl (((OF.2.1.s0 f).s1 (-1)).s2 z)) rfl ⟨?_, ?_⟩
                      · rw [HRR.out]
                      · exact ((OF.2.2.setCell (by simp) _).setCell (by simp) _).setCell (by simp) _
                    · skip
                      by_cases c7 : n ≤ 89
                      · have p30 : 30 ≤ n := by omega
                        have q30 : ¬ n ≤ 37 := by omega
                        have p90 : ¬ 90 ≤ n := by omega
                        have p40 : 40 ≤ n := by omega
                        have q40 : ¬ n ≤ 47 := by omega
                        have p100 : ¬ 100 ≤ n := by omega
                        have r39 : (n == 39) = false := by simp; omega
                        have r49 : (n == 49) = false := by simp; omega
                        have HRR : Hid (R = ⟨f, b, z⟩) := Lib.hid (by
                          rw [← HR.out, ← HZ.out]
                          unfold At.col
                          apply At.R.eq
                          · simp only
                            repeat' split
                            all_goals first | rfl | omega
                          · simp only
                            repeat' split
                            all_goals first | rfl | omega
                          · rfl)
                        clear c0 c1 c2 c3 c4 c5 c6 c7
                        go_wp2
                        have OF := OW.out
                        refine bodyPost_ret (res_one _ _ _ _ rfl (((OF.2.1.s0 f).s1 b).s2 z)) rfl ⟨?_, ?_⟩
                        · rw [HRR.out]
                        · exact ((OF.2.2.setCell (by simp) _).setCell (by simp) _).setCell (by simp) _
                      · skip
                        by_cases c8 : n ≤ 97
                        · have p30 : 30 ≤ n := by omega
                          have q30 : ¬ n ≤ 37 := by omega
                          have p90 : 90 ≤ n := by omega
                          have q90 : n ≤ 97 := by omega
                          have p40 : 40 ≤ n := by omega
                          have q40 : ¬ n ≤ 47 := by omega
                          have p100 : ¬ 100 ≤ n := by omega
                          have r39 : (n == 39) = false := by simp; omega
                          have r49 : (n == 49) = false := by simp; omega
                          have HRR : Hid (R = ⟨(n - 82), b, z⟩) := Lib.hid (by
                            rw [← HR.out, ← HZ.out]
                            unfold At.col
                            apply At.R.eq
                            · simp only
                              repeat' split
                              all_goals first | rfl | omega
                            · simp only
                              repeat' split
                              all_goals first | rfl | omega
                            · rfl)
                          clear c0 c1 c2 c3 c4 c5 c6 c7 c8
                          go_wp2
                          have OF := (OW.out.s0 (n - 82))
                          refine bodyPost_ret (res_one _ _ _ _ rfl (((OF.2.1.s0 (n - 82)).s1 b).s2 z)) rfl ⟨?_, ?_⟩
                          · rw [HRR.out]
                          · exact ((OF.2.2.setCell (by simp) _).setCell (by simp) _).setCell (by simp) _
                        · skip
                          by_cases c9 : n ≤ 99
                          · have p30 : 30 ≤ n := by omega
                            have q30 : ¬ n ≤ 37 := by omega
                            have p90 : 90 ≤ n := by omega
                            have q90 : ¬ n ≤ 97 := by omega
                            have p40 : 40 ≤ n := by omega
                            have q40 : ¬ n ≤ 47 := by omega
                            have p100 : ¬ 100 ≤ n := by omega
                            have r39 : (n == 39) = false := by simp; omega
                            have r49 : (n == 49) = false := by simp; omega
                            have HRR : Hid (R = ⟨f, b, z⟩) := Lib.hid (by
                              rw [← HR.out, ← HZ.out]
                              unfold At.col
                              apply At.R.eq
                              · simp only
                                repeat' split
                                all_goals first | rfl | omega
                              · simp only
                                repeat' split
                                all_goals first | rfl | omega
                              · rfl)
                            clear c0 c1 c2 c3 c4 c5 c6 c7 c8 c9
                            go_wp2
                            have OF := OW.out
                            refine bodyPost_ret (res_one _ _ _ _ rfl (((OF.2.1.s0 f).s1 b).s2 z)) rfl ⟨?_, ?_⟩
                            · rw [HRR.out]
                            · exact ((OF.2.2.setCell (by simp) _).setCell (by simp) _).setCell (by simp) _
                          · skip
                            by_cases c10 : n ≤ 107
                            · have p30 : 30 ≤ n := by omega
                              have q30 : ¬ n ≤ 37 := by omega
                              have p90 : 90 ≤ n := by omega
                              have q90 : ¬ n ≤ 97 := by omega
                              have p40 : 40 ≤ n := by omega
                              have q40 : ¬ n ≤ 47 := by omega
                              have p100 : 100 ≤ n := by omega
                              have q100 : n ≤ 107 := by omega
                              have r39 : (n == 39) = false := by simp; omega
                              have r49 : (n == 49) = false := by simp; omega
                              have HRR : Hid (R = ⟨f, (n - 92), z⟩) := Lib.hid (by
                                rw [← HR.out, ← HZ.out]
                                unfold At.col
                                apply At.R.eq
                                · simp only
                                  repeat' split
                                  all_goals first | rfl | omega
                                · simp only
                                  repeat' split
                                  all_goals first | rfl | omega
                                · rfl)
                              clear c0 c1 c2 c3 c4 c5 c6 c7 c8 c9 c10
                              go_wp2
                              have OF := (OW.out.s1 (n - 92))
                              refine bodyPost_ret (res_one _ _ _ _ rfl (((OF.2.1.s0 f).s1 (n - 92)).s2 z)) rfl ⟨?_, ?_⟩
                              · rw [HRR.out]
                              · exact ((OF.2.2.setCell (by simp) _).setCell (by simp) _).setCell (by simp) _
                            · skip
                              have p30 : 30 ≤ n := by omega
                              have q30 : ¬ n ≤ 37 := by omega
                              have p90 : 90 ≤ n := by omega
                              have q90 : ¬ n ≤ 97 := by omega
                              have p40 : 40 ≤ n := by omega
                              have q40 : ¬ n ≤ 47 := by omega
                              have p100 : 100 ≤ n := by omega
                              have q100 : ¬ n ≤ 107 := by omega
                              have r39 : (n == 39) = false := by simp; omega
                              have r49 : (n == 49) = false := by simp; omega
                              have HRR : Hid (R = ⟨f, b, z⟩) := Lib.hid (by
                                rw [← HR.out, ← HZ.out]
                                unfold At.col
                                apply At.R.eq
                                · simp only
                                  repeat' split
                                  all_goals first | rfl | omega
                                · simp only
                                  repeat' split
                                  all_goals first | rfl | omega
                                · rfl)
                              clear c0 c1 c2 c3 c4 c5 c6 c7 c8 c9 c10
                              go_wp2
                              have OF := OW.out
                              refine bodyPost_ret (res_one _ _ _ _ rfl (((OF.2.1.s0 f).s1 b).s2 z)) rfl ⟨?_, ?_⟩
                              · rw [HRR.out]
                              · exact ((OF.2.2.setCell (by simp) _).setCell (by simp) _).setCell (by simp) _

end Go.Proofs.YtodcjdglnfgdpaaDoor
