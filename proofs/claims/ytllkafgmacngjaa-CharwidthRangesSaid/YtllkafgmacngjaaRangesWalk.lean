/-
  The statement on the ranges of wide characters returns true, for every number.
-/
import Derived.Test.YtllkafgmacngjaaAwake
namespace Go.Proofs.Ytllkafgmacngjaa
open Go.RowKit

/-- The ranges ascend and do not overlap. -/
theorem wide_asc : ∀ k, k < 14 → (Cw.wide.getD k (0, 0)).1 ≤ (Cw.wide.getD k (0, 0)).2 := by decide
theorem wide_apart : ∀ k, k < 13 → (Cw.wide.getD k (0, 0)).2 < (Cw.wide.getD (k + 1) (0, 0)).1 := by decide
theorem hits_take (ps : List (Int × Int)) (r : Int) (k : Nat) (hk : k < ps.length) : Cw.hits (ps.take (k + 1)) r = (Cw.hits (ps.take k) r || Cw.hit (ps.getD k (0, 0)) r) := by
  unfold Cw.hits
  rw [List.take_succ_eq_append_getElem hk, List.any_append]
  simp [List.getD_eq_getElem?_getD, hk]

/-- A round lays one block and draws: nothing that was there turns. -/
theorem kept {w w' : World} (h : Below w.heap.size w w') (n : Nat) (o : Obj) : Below w.heap.size w ((w'.alloc o).drewN n) :=
  have h' := h.alloc h.size o
  ⟨h'.os, h'.tape, h'.output, h'.size, h'.block⟩

set_option maxHeartbeats 4000000 in
set_option maxRecDepth 100000 in
theorem ranges_walk (r : Int) (w : World) (_ : -2147483648 ≤ r) (_ : r ≤ 2147483647) :
    Calls Try.prog 5 #[.int .i32 r] w fun e w' => e = .returned (.bool true) ∧ Below w.heap.size w w' := by
  go_enter Try.func5, Try.ntmps5
  go_wp2_with fail
  refine (table_of (wide_any w)).mono ?_
  rintro e w1 ⟨rfl, hT, hb⟩
  have HB := Lib.hid hb
  clear hb
  go_wp2
  go_loopg [4, 10] 14 (fun gg s4 s10 wr => ∃ (k : Nat) (q : Bool), k ≤ 14 ∧ 14 - k ≤ gg ∧ s10 = .int .i64 k ∧ s4 = .bool q ∧ Aside (Below w1.heap.size w1 wr) ∧ Aside (q = Cw.hits (Cw.wide.take k) r))
  case atStart => exact ⟨0, false, by omega, by omega, rfl, rfl, Below.refl _ w1, (rfl : false = Cw.hits (Cw.wide.take 0) r)⟩
  case round =>
    obtain ⟨k, q, hk, hg, rfl, rfl, BW, Z⟩ := hrel
    have hsz := BW.out.size
    by_cases hkn : k < 14
    · have hz : (k : Int) < 14 := by omega
      have hz0 : (0 : Int) ≤ (k : Int) := by omega
      have hasc := wide_asc k hkn
      have hstep := Lib.hid (hits_take Cw.wide r k hkn)
      have hlt := hT.1
      have hne : w.heap.size ≠ wr.heap.size := by omega
      obtain ⟨c1, c2⟩ := hT.2 k hkn
      have d1 := (BW.out.cell (p := ⟨w.heap.size, k * 2, none⟩) hT.1).trans c1
      have d2 := (BW.out.cell (p := ⟨w.heap.size, k * 2 + 1, none⟩) hT.1).trans c2
      clear c1 c2
      obtain ⟨y, hy⟩ : ∃ y, Cw.wide.getD k (0, 0) = y := ⟨_, rfl⟩
      rw [hy] at d1 d2 hasc hstep
      obtain ⟨a, b⟩ := y
      have hgt : decide (b < a) = false := by simp; exact hasc
      have HH : Hid (Cw.hit (a, b) r = (decide (a ≤ r) && decide (r ≤ b))) := Lib.hid rfl
      have HT := Lib.hid hT
      have HY := Lib.hid hy
      clear hT hy
      rcases Nat.eq_zero_or_pos k with h0 | h0
      · subst h0
        cases q
        · by_cases a1 : a ≤ r
          · by_cases a2 : r ≤ b
            all_goals
              go_wp2
              go_quiet (fail)
              go_wp2
              go_roundg (14 - 1)
              case measure => omega
              case rel =>
                refine ⟨1, _, by omega, by omega, by go_num, rfl, kept BW.out nq _, ?_⟩
                unfold Aside
                rw [hstep.out, HH.out, ← Z.out]
                simp
                omega
          · go_wp2
            go_quiet (fail)
            go_wp2
            go_roundg (14 - 1)
            case measure => omega
            case rel =>
              refine ⟨1, _, by omega, by omega, by go_num, rfl, kept BW.out nq _, ?_⟩
              unfold Aside
              rw [hstep.out, HH.out, ← Z.out]
              simp
              omega
        · exact absurd Z.out (by simp [Cw.hits])
      · obtain ⟨j, rfl⟩ : ∃ j, k = j + 1 := ⟨k - 1, by omega⟩
        have hap := wide_apart j (by omega)
        have e2 := (BW.out.cell (p := ⟨w.heap.size, j * 2 + 1, none⟩) HT.out.1).trans (HT.out.2 j (by show j < 14; omega)).2
        rw [HY.out] at hap
        obtain ⟨x, hx⟩ : ∃ x, (Cw.wide.getD j (0, 0)).2 = x := ⟨_, rfl⟩
        rw [hx] at hap e2
        clear hx
        have hle : decide (a ≤ x) = false := by simp; exact hap
        have e3 : (wr.alloc (.cells #[.int .i32 a, .int .i32 b] 30)).cell? ⟨w.heap.size, j * 2 + 1, none⟩ = some (.int .i32 x) := (World.cell?_alloc_lt wr _ _ (by show w.heap.size < wr.heap.size; omega)).trans e2
        have hj0 : (0 : Int) ≤ (j : Int) := by omega
        have hj1 : (j : Int) < 14 := by omega
        have hj2 : (0 : Int) < (j : Int) + 1 := by omega
        have hj3 : IntKind.i64.wrap (j : Int) = (j : Int) := by rw [IntKind.wrap_i64]; omega
        cases q
        · by_cases a1 : a ≤ r
          · by_cases a2 : r ≤ b
            all_goals
              go_wp2
              go_quiet (fail)
              go_wp2
              go_roundg (14 - (j + 2))
              case measure => omega
              case rel =>
                refine ⟨j + 2, _, by omega, by omega, by go_num, rfl, kept BW.out nq _, ?_⟩
                unfold Aside
                rw [hstep.out, HH.out, ← Z.out]
                simp
                omega
          · go_wp2
            go_quiet (fail)
            go_wp2
            go_roundg (14 - (j + 2))
            case measure => omega
            case rel =>
              refine ⟨j + 2, _, by omega, by omega, by go_num, rfl, kept BW.out nq _, ?_⟩
              unfold Aside
              rw [hstep.out, HH.out, ← Z.out]
              simp
              omega
        · go_wp2
          go_quiet (fail)
          go_wp2
          go_roundg (14 - (j + 2))
          case measure => omega
          case rel =>
            refine ⟨j + 2, _, by omega, by omega, by go_num, rfl, kept BW.out nq _, ?_⟩
            unfold Aside
            rw [hstep.out, HH.out, ← Z.out]
            simp
    · have hz : ¬ (k : Int) < 14 := by omega
      obtain rfl : k = 14 := by omega
      have hq : q = Cw.hits Cw.wide r := Z.out
      have hw := Cw.wd_two r
      have hcs := Cw.wd_cases r
      have h1 := fun w => width_any r w
      rw [← hq] at hw
      generalize Cw.wd r = z at h1 hw hcs
      clear hT hq
      cases q
      · have hz2 : ¬ z = 2 := by rw [hw]; simp
        rcases hcs with rfl | rfl | rfl | rfl
        rotate_right
        · exact absurd rfl hz2
        all_goals
          clear hw hz2
          go_wp2_with fail
          refine (h1 wr).mono ?_
          rintro e w2 ⟨rfl, b2⟩
          go_wp2_with fail
          refine (awake_any w2).mono ?_
          rintro e w3 ⟨rfl, b3⟩
          go_wp2
          go_ret
          have s0 := HB.out.size
          have s2 := b2.size
          exact ⟨rfl, ((HB.out.trans (BW.out.mono s0)).trans (b2.mono (by omega))).trans (b3.mono (by omega))⟩
      · obtain rfl : z = 2 := hw.2 rfl
        clear hw hcs
        go_wp2_with fail
        refine (h1 wr).mono ?_
        rintro e w2 ⟨rfl, b2⟩
        go_wp2_with fail
        refine (awake_any w2).mono ?_
        rintro e w3 ⟨rfl, b3⟩
        go_wp2
        go_ret
        have s0 := HB.out.size
        have s2 := b2.size
        exact ⟨rfl, ((HB.out.trans (BW.out.mono s0)).trans (b2.mono (by omega))).trans (b3.mono (by omega))⟩

end Go.Proofs.Ytllkafgmacngjaa
