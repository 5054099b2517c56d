/-
  The statement on erasing returns true.
-/
import Derived.Test.YtcljmmadimldlaaDoorCrFitsWalk
namespace Go.Proofs.YtcljmmadimldlaaDoor
open Go.RowKit Go.Shelf Cr

/-- What Erase leaves of proper rows at a proper range. -/
def era (l : List C) (i j : Nat) (b : Int) : List C := if i = j then l else repl l i j (blanks (j - i) b)
theorem era_E {l : List C} (hP : Pr l) (h1 : 1 ≤ l.length) (h2 : l.length ≤ 132) {i j : Nat} (hij : i ≤ j) (hj : j ≤ l.length) (b : Int) : eraE l (i : Int) (j : Int) = 0 ∧ eraL l (i : Int) (j : Int) b = era l i j b ∧ (era l i j b).length = l.length ∧ Pr (era l i j b) := by
  have hE : eraE l (i : Int) (j : Int) = 0 := by unfold eraE; rw [if_neg (by rw [check_good hP h1 h2]; simp), if_neg (by omega)]
  refine ⟨hE, ?_, ?_⟩
  · unfold eraL era
    rw [if_neg (by omega), Int.toNat_natCast, Int.toNat_natCast]
    by_cases h : i = j
    · rw [if_pos (by omega), if_pos h]
    · rw [if_neg (by omega), if_neg h]
  · unfold era
    by_cases h : i = j
    · rw [if_pos h]; exact ⟨rfl, hP⟩
    · rw [if_neg h]
      exact ⟨repl_length i j hij hj (blanks_length _ _), repl_Pr hP (blanks_Pr _ _) i j⟩
theorem era_era {l : List C} (hP : Pr l) {i j k : Nat} (hij : i ≤ j) (hjk : j ≤ k) (hk : k ≤ l.length) (b : Int) : era (era l i j b) j k b = era l i k b := by
  by_cases h1 : i = j
  · subst h1
    unfold era
    rw [if_pos rfl]
  · by_cases h2 : j = k
    · subst h2
      have e : ∀ X : List C, era X j j b = X := fun X => by unfold era; rw [if_pos rfl]
      rw [e]
    · unfold era
      rw [if_neg h1, if_neg h2, if_neg (by omega), repl_repl hP (by omega) (by omega) hk b]
theorem era_all {l : List C} (h1 : 1 ≤ l.length) (b : Int) : era l 0 l.length b = blanks l.length b := by
  unfold era
  rw [if_neg (by omega), Nat.sub_zero, repl_all]
theorem era_out {l : List C} {i j x : Nat} {c : C} {b : Int} (hij : i ≤ j) (hj : j ≤ l.length) (hx : l[x]? = some c) (ho : x < i ∨ j ≤ x) (hh : i = j ∨ ¬ ((x + 1 = i ∧ c.w = 2) ∨ (x = j ∧ c.w = 0))) : (era l i j b)[x]? = some c := by
  unfold era
  by_cases h : i = j
  · rw [if_pos h]; exact hx
  · rw [if_neg h, repl_out hij hj (blanks_length _ _) hx ho, if_neg (hh.resolve_left h)]

set_option maxHeartbeats 6000000 in
set_option maxRecDepth 100000 in
theorem erases_walk (A : Option Addr) (n c : Nat) (l : List C) (x y z : Int) (f b g : Int) (w : World) (hr : Rd w A n l) (hnc : n ≤ c) (hmax : n ≤ 9223372036854775807) (hx0 : -9223372036854775808 ≤ x) (_hx1 : x ≤ 9223372036854775807) (hy0 : -9223372036854775808 ≤ y) (_hy1 : y ≤ 9223372036854775807) (hz0 : -9223372036854775808 ≤ z) (_hz1 : z ≤ 9223372036854775807) (hT : Lib.Utf8Tabs 0 1 w) :
    Calls Tryd.prog 10 #[.slice A n c, .int .i64 x, .int .i64 y, .int .i64 z, .agg #[.int .i64 f, .int .i64 b, .int .i64 g]] w fun e w' => e = .returned (.bool true) ∧ Below w.heap.size w w' := by
  have hl : l.length = n := hr.1
  obtain ⟨W, hW⟩ : ∃ W, w.alloc (.cells #[.int .i64 f, .int .i64 b, .int .i64 g] 24) = W := ⟨_, rfl⟩
  have bW : Below w.heap.size w W := by rw [← hW]; exact (Below.refl _ _).alloc (Nat.le_refl _) _
  have hkA : W.heap[w.heap.size]? = some (.cells #[.int .i64 f, .int .i64 b, .int .i64 g] 24) := by rw [← hW]; exact heap_alloc_new w _
  have HKA := Lib.hid (fun W' (h : Below W.heap.size W W') => (h.block _ (Array.getElem?_eq_some_iff.1 hkA).1).trans hkA)
  have HR := Lib.hid hr
  have HW := Lib.hid bW
  have HT := Lib.hid (fun W' (h : Below w.heap.size w W') => Utf8Tabs_below hT h)
  have CG := Lib.hid (great_any A n c l W (hr.below bW))
  clear bW hkA
  cases hg : great l
  · rw [hg] at CG
    have hsm := sm_of hg
    have CC := Lib.hid (checkRow_any A n c l W (HR.out.below HW.out) hnc hmax hsm.1 (HT.out W HW.out))
    obtain ⟨q, hq⟩ : ∃ q, check l = q := ⟨_, rfl⟩
    rw [hq] at CC
    have HSM := Lib.hid hsm.1
    clear hr hT hg hsm
    by_cases h0 : q = 0
    · subst h0
      by_cases h1 : x < 0
      · clear hq
        go_enter Tryd.func10, Tryd.ntmps10
        go_wp2_with fail
        refine (CG.out).mono ?_
        rintro e w0 ⟨rfl, rfl⟩
        clear CG
        go_wp2_with fail
        refine (CC.out).mono ?_
        rintro e w1 ⟨rfl, b1⟩
        have B1 := Lib.hid (HW.out.trans (b1.mono HW.out.size))
        have BW1 := Lib.hid b1
        clear b1 CC
        go_wp2_with fail
        refine (awake_true w1 (HT.out _ B1.out)).mono ?_
        rintro e wz ⟨rfl, bz⟩
        go_wp2
        go_ret
        exact ⟨rfl, B1.out.trans (bz.mono B1.out.size)⟩
      · by_cases h2 : y < x
        · clear hq
          go_enter Tryd.func10, Tryd.ntmps10
          go_wp2_with fail
          refine (CG.out).mono ?_
          rintro e w0 ⟨rfl, rfl⟩
          clear CG
          go_wp2_with fail
          refine (CC.out).mono ?_
          rintro e w1 ⟨rfl, b1⟩
          have B1 := Lib.hid (HW.out.trans (b1.mono HW.out.size))
          have BW1 := Lib.hid b1
          clear b1 CC
          go_wp2_with fail
          refine (awake_true w1 (HT.out _ B1.out)).mono ?_
          rintro e wz ⟨rfl, bz⟩
          go_wp2
          go_ret
          exact ⟨rfl, B1.out.trans (bz.mono B1.out.size)⟩
        · by_cases h3 : z < y
          · clear hq
            go_enter Tryd.func10, Tryd.ntmps10
            go_wp2_with fail
            refine (CG.out).mono ?_
            rintro e w0 ⟨rfl, rfl⟩
            clear CG
            go_wp2_with fail
            refine (CC.out).mono ?_
            rintro e w1 ⟨rfl, b1⟩
            have B1 := Lib.hid (HW.out.trans (b1.mono HW.out.size))
            have BW1 := Lib.hid b1
            clear b1 CC
            go_wp2_with fail
            refine (awake_true w1 (HT.out _ B1.out)).mono ?_
            rintro e wz ⟨rfl, bz⟩
            go_wp2
            go_ret
            exact ⟨rfl, B1.out.trans (bz.mono B1.out.size)⟩
          · by_cases h4 : (n : Int) < z
            · clear hq
              go_enter Tryd.func10, Tryd.ntmps10
              go_wp2_with fail
              refine (CG.out).mono ?_
              rintro e w0 ⟨rfl, rfl⟩
              clear CG
              go_wp2_with fail
              refine (CC.out).mono ?_
              rintro e w1 ⟨rfl, b1⟩
              have B1 := Lib.hid (HW.out.trans (b1.mono HW.out.size))
              have BW1 := Lib.hid b1
              clear b1 CC
              go_wp2_with fail
              refine (awake_true w1 (HT.out _ B1.out)).mono ?_
              rintro e wz ⟨rfl, bz⟩
              go_wp2
              go_ret
              exact ⟨rfl, B1.out.trans (bz.mono B1.out.size)⟩
            · have hP := check_zero.1 hq
              obtain ⟨i, rfl⟩ : ∃ i : Nat, x = (i : Int) := ⟨x.toNat, by omega⟩
              obtain ⟨j, rfl⟩ : ∃ j : Nat, y = (j : Int) := ⟨y.toNat, by omega⟩
              obtain ⟨k, rfl⟩ : ∃ k : Nat, z = (k : Int) := ⟨z.toNat, by omega⟩
              obtain ⟨ab, ao, rfl⟩ := HR.out.addr (by omega)
              have r1 := era_E hP.2.2 hP.1 hP.2.1 (i := i) (j := j) (by omega) (by omega) b
              have r2 := era_E (l := era l i j b) r1.2.2.2 (by omega) (by omega) (i := j) (j := k) (by omega) (by omega) b
              have r3 := era_E hP.2.2 hP.1 hP.2.1 (i := i) (j := k) (by omega) (by omega) b
              have r4 := era_E hP.2.2 hP.1 hP.2.1 (i := 0) (j := n) (by omega) (by omega) b
              have F1 := Lib.hid (fun W' (h : Below w.heap.size w W') => erase_any (some ⟨ab, ao, none⟩) n c l (i : Int) (j : Int) f b g W' (HR.out.below h) hnc hmax HSM.out (HT.out W' h))
              rw [r1.1, r1.2.1] at F1
              have F2 := Lib.hid (fun (A' : Option Addr) (c' : Nat) W' (hr' : Rd W' A' n (era l i j b)) (hc' : n ≤ c') (h : Below w.heap.size w W') => erase_any A' n c' (era l i j b) (j : Int) (k : Int) f b g W' hr' hc' hmax (by have := Sm_eraL HSM.out (i : Int) (j : Int) b; rwa [r1.2.1] at this) (HT.out W' h))
              rw [r2.1, r2.2.1, era_era hP.2.2 (by omega) (by omega) (by omega) b] at F2
              have F3 := Lib.hid (fun W' (h : Below w.heap.size w W') => erase_any (some ⟨ab, ao, none⟩) n c l (i : Int) (k : Int) f b g W' (HR.out.below h) hnc hmax HSM.out (HT.out W' h))
              rw [r3.1, r3.2.1] at F3
              have F4 := Lib.hid (fun W' (h : Below w.heap.size w W') => erase_any (some ⟨ab, ao, none⟩) n c l 0 (n : Int) f b g W' (HR.out.below h) hnc hmax HSM.out (HT.out W' h))
              have r41 : eraE l 0 (n : Int) = 0 := r4.1
              have r42 : eraL l 0 (n : Int) b = blanks n b := by
                have := r4.2.1
                rw [← hl, era_all hP.1] at this
                rw [← hl]
                exact this
              rw [r41, r42] at F4
              have FB := Lib.hid (fun W' => blankRow_any (n : Int) f b g W')
              rw [if_pos (⟨by omega, by omega⟩ : (1 : Int) ≤ (n : Int) ∧ (n : Int) ≤ 132), Int.toNat_natCast] at FB
              have HL1 := Lib.hid (r1.2.2.1.trans hl)
              have HL3 := Lib.hid (r3.2.2.1.trans hl)
              have HEO := Lib.hid (fun (x : Nat) (y : C) (hx : l[x]? = some y) (ho : x < i ∨ k ≤ x) (hh : i = k ∨ ¬ ((x + 1 = i ∧ y.w = 2) ∨ (x = k ∧ y.w = 0))) => era_out (b := b) (l := l) (i := i) (j := k) (by omega) (by omega) hx ho hh)
              have hbl : (blanks n b).length = n := blanks_length n b
              have HBL := Lib.hid hbl
              have hn132 : (n : Int) ≤ 132 := by omega
              have hn1000 : n ≤ 1000 := by omega
              have hik : (i : Int) ≤ (k : Int) := by omega
              have hkn : (k : Int) ≤ (n : Int) := by omega
              have hi0 : (0 : Int) ≤ (i : Int) := by omega
              clear hq r1 r2 r3 r4 r41 r42 hbl hP
              generalize era l i k b = lz at F2 F3 HL3 HEO
              generalize era l i j b = lx at F1 F2 HL1
              go_enter Tryd.func10, Tryd.ntmps10
              go_wp2_with fail
              refine (CG.out).mono ?_
              rintro e w0 ⟨rfl, rfl⟩
              clear CG
              go_wp2_with fail
              refine (CC.out).mono ?_
              rintro e w1 ⟨rfl, b1⟩
              have B1 := Lib.hid (HW.out.trans (b1.mono HW.out.size))
              have BW1 := Lib.hid b1
              clear b1 CC
              have q0 := cell_of_row w1 _ 0 _ _ _ (HKA.out w1 BW1.out)
              have q1 := cell_of_row w1 _ 1 _ _ _ (HKA.out w1 BW1.out)
              have q2 := cell_of_row w1 _ 2 _ _ _ (HKA.out w1 BW1.out)
              go_wp2_with fail
              refine (F1.out w1 B1.out).mono ?_
              rintro e w2 ⟨A2, n2, c2, rfl, g2⟩
              obtain rfl : n = n2 := by rw [g2.len, HL1.out]
              have B2 := Lib.hid (B1.out.trans (g2.2.2.mono B1.out.size))
              have BW2 := Lib.hid (BW1.out.trans (g2.2.2.mono BW1.out.size))
              have G2 := Lib.hid g2
              clear g2 q0 q1 q2
              have q0 := cell_of_row w2 _ 0 _ _ _ (HKA.out w2 BW2.out)
              have q1 := cell_of_row w2 _ 1 _ _ _ (HKA.out w2 BW2.out)
              have q2 := cell_of_row w2 _ 2 _ _ _ (HKA.out w2 BW2.out)
              go_wp2_with fail
              refine (F2.out A2 c2 w2 G2.out.1 G2.out.2.1.2 B2.out).mono ?_
              rintro e w3 ⟨A3, n3, c3, rfl, g3⟩
              obtain rfl : n = n3 := by rw [g3.len, HL3.out]
              have B3 := Lib.hid (B2.out.trans (g3.2.2.mono B2.out.size))
              have BW3 := Lib.hid (BW2.out.trans (g3.2.2.mono BW2.out.size))
              have G3 := Lib.hid g3
              clear g3 q0 q1 q2
              have q0 := cell_of_row w3 _ 0 _ _ _ (HKA.out w3 BW3.out)
              have q1 := cell_of_row w3 _ 1 _ _ _ (HKA.out w3 BW3.out)
              have q2 := cell_of_row w3 _ 2 _ _ _ (HKA.out w3 BW3.out)
              go_wp2_with fail
              refine (F3.out w3 B3.out).mono ?_
              rintro e w4 ⟨A4, n4, c4, rfl, g4⟩
              obtain rfl : n = n4 := by rw [g4.len, HL3.out]
              have B4 := Lib.hid (B3.out.trans (g4.2.2.mono B3.out.size))
              have BW4 := Lib.hid (BW3.out.trans (g4.2.2.mono BW3.out.size))
              have G4 := Lib.hid g4
              clear g4 q0 q1 q2
              have q0 := cell_of_row w4 _ 0 _ _ _ (HKA.out w4 BW4.out)
              have q1 := cell_of_row w4 _ 1 _ _ _ (HKA.out w4 BW4.out)
              have q2 := cell_of_row w4 _ 2 _ _ _ (HKA.out w4 BW4.out)
              go_wp2_with fail
              refine (F4.out w4 B4.out).mono ?_
              rintro e w5 ⟨A5, n5, c5, rfl, g5⟩
              obtain rfl : n = n5 := by rw [g5.len, HBL.out]
              have B5 := Lib.hid (B4.out.trans (g5.2.2.mono B4.out.size))
              have BW5 := Lib.hid (BW4.out.trans (g5.2.2.mono BW4.out.size))
              have G5 := Lib.hid g5
              clear g5 q0 q1 q2
              have q0 := cell_of_row w5 _ 0 _ _ _ (HKA.out w5 BW5.out)
              have q1 := cell_of_row w5 _ 1 _ _ _ (HKA.out w5 BW5.out)
              have q2 := cell_of_row w5 _ 2 _ _ _ (HKA.out w5 BW5.out)
              have S5 := Lib.hid (same_any A3 A4 n n c3 c4 lz lz w5 ((G3.out.1.below G4.out.2.2).below G5.out.2.2) (G4.out.1.below G5.out.2.2) hn1000 hn1000)
              rw [decide_eq_true rfl] at S5
              clear q0 q1 q2
              go_wp2_with fail
              refine (S5.out).mono ?_
              rintro e w6 ⟨rfl, b6⟩
              have B6 := Lib.hid (B5.out.trans (b6.mono B5.out.size))
              have BW6 := Lib.hid (BW5.out.trans (b6.mono BW5.out.size))
              have D6 := Lib.hid b6
              clear b6 S5
              have q0 := cell_of_row w6 _ 0 _ _ _ (HKA.out w6 BW6.out)
              have q1 := cell_of_row w6 _ 1 _ _ _ (HKA.out w6 BW6.out)
              have q2 := cell_of_row w6 _ 2 _ _ _ (HKA.out w6 BW6.out)
              go_wp2_with fail
              refine (FB.out w6).mono ?_
              rintro e w7 ⟨A7, n7, c7, rfl, g7⟩
              obtain rfl : n = n7 := by rw [g7.len, HBL.out]
              have B7 := Lib.hid (B6.out.trans (g7.2.2.mono B6.out.size))
              have S7 := Lib.hid (same_any A5 A7 n n c5 c7 (blanks n b) (blanks n b) w7 ((G5.out.1.below D6.out).below g7.2.2) g7.1 hn1000 hn1000)
              rw [decide_eq_true rfl] at S7
              have D7 := Lib.hid g7.2.2
              clear g7 q0 q1 q2
              go_wp2_with fail
              refine (S7.out).mono ?_
              rintro e w8 ⟨rfl, b8⟩
              have B8 := Lib.hid (B7.out.trans (b8.mono B7.out.size))
              have Z8 := Lib.hid ((((G4.out.1.below G5.out.2.2).below D6.out).below D7.out).below b8)
              clear b8 S7 D6 D7 G2 G3 G4 G5 F1 F2 F3 F4 FB
              go_wp2
              go_loopg [19, 20] (n + 1) (fun gk v19 _ wr => ∃ r : Nat, gk + r = n + 1 ∧ r ≤ n ∧ v19 = .int .i64 (r : Int) ∧ Aside (Below w8.heap.size w8 wr))
              case atStart => exact ⟨0, by omega, Nat.zero_le _, rfl, Below.refl _ _⟩
              case round =>
                obtain ⟨r, hgk, hrn, rfl, hA⟩ := hrel
                have Br := Lib.hid (B8.out.trans (hA.out.mono B8.out.size))
                by_cases hlt : r < n
                · obtain ⟨gf, rfl⟩ : ∃ gf, gk = gf + 1 := ⟨gk - 1, by omega⟩
                  have hz : (r : Int) < (n : Int) := by omega
                  have hz0 : (0 : Int) ≤ (r : Int) := by omega
                  have hrl : r < l.length := by rw [hl]; exact hlt
                  obtain ⟨y, hy⟩ : ∃ y, l[r]? = some y := ⟨l[r], List.getElem?_eq_getElem hrl⟩
                  obtain ⟨ab', ao', e1, _, p0, p1, p2, p3, p4⟩ := (HR.out.below Br.out).at r y hy
                  injection e1 with e1
                  injection e1 with e1 e2
                  subst e1 e2
                  have hzl : r < lz.length := by rw [HL3.out]; exact hlt
                  obtain ⟨y', hy'⟩ : ∃ y', lz[r]? = some y' := ⟨lz[r], List.getElem?_eq_getElem hzl⟩
                  obtain ⟨zb, zo, rfl, _, s0, s1, s2, s3, s4⟩ := (Z8.out.below hA.out).at r y' hy'
                  have HYY := Lib.hid (fun (ho : r < i ∨ k ≤ r) (hh : i = k ∨ ¬ ((r + 1 = i ∧ y.w = 2) ∨ (r = k ∧ y.w = 0))) => Option.some.inj (hy'.symm.trans (HEO.out r y hy ho hh)))
                  obtain ⟨hb, hhb⟩ : ∃ hb, decide ((r + 1 = i ∧ y.w = 2) ∨ (r = k ∧ y.w = 0)) = hb := ⟨_, rfl⟩
                  have HHB := Lib.hid hhb
                  clear hhb
                  have hi132 : (i : Int) ≤ 132 := by omega
                  have HLT := Lib.hid hlt
                  go_upto_region 14 with fail
                  go_cut [20] (fun v wx => v = .bool hb ∧ wr = wx)
                  case first =>
                    have fin : ∀ q : Bool, (q = true ↔ ((r + 1 = i ∧ y.w = 2) ∨ (r = k ∧ y.w = 0))) → q = hb := fun q h => by
                      rw [← HHB.out]
                      by_cases hd : (r + 1 = i ∧ y.w = 2) ∨ (r = k ∧ y.w = 0)
                      · rw [decide_eq_true hd]; exact h.2 hd
                      · rw [decide_eq_false hd]
                        cases q
                        · rfl
                        · exact absurd (h.1 rfl) hd
                    have FIN := Lib.hid fin
                    clear HYY fin s0 s1 s2 s3 s4 p0 p2 p3 p4 hy hy'
                    by_cases c1 : r + 1 = i
                    · have c1b : ((r : Int) == (i : Int) - 1) = true := beq_iff_eq.2 (by omega)
                      have c3 : r ≠ k := by omega
                      have c3b : ((r : Int) == (k : Int)) = false := beq_eq_false_iff_ne.2 (by omega)
                      have C1 := Lib.hid c1
                      clear c1
                      by_cases c2 : y.w = 2
                      · have c2b : (y.w == 2) = true := beq_iff_eq.2 c2
                        have C2 := Lib.hid c2
                        clear c2
                        go_wp2
                        go_meet
                        exact ⟨congrArg Value.bool (FIN.out true ⟨fun _ => .inl ⟨C1.out, C2.out⟩, fun _ => rfl⟩), rfl⟩
                      · have c2b : (y.w == 2) = false := beq_eq_false_iff_ne.2 c2
                        go_wp2
                        go_meet
                        exact ⟨congrArg Value.bool (FIN.out false ⟨(fun h => by cases h), fun h => h.elim (fun h => absurd h.2 c2) (fun h => absurd h.1 c3)⟩), rfl⟩
                    · have c1b : ((r : Int) == (i : Int) - 1) = false := beq_eq_false_iff_ne.2 (by omega)
                      by_cases c3 : r = k
                      · have c3b : ((r : Int) == (k : Int)) = true := beq_iff_eq.2 (by omega)
                        have C3 := Lib.hid c3
                        clear c3
                        by_cases c4 : y.w = 0
                        · have c4b : (y.w == 0) = true := beq_iff_eq.2 c4
                          have C4 := Lib.hid c4
                          clear c4
                          go_wp2
                          go_meet
                          exact ⟨congrArg Value.bool (FIN.out true ⟨fun _ => .inr ⟨C3.out, C4.out⟩, fun _ => rfl⟩), rfl⟩
                        · have c4b : (y.w == 0) = false := beq_eq_false_iff_ne.2 c4
                          go_wp2
                          go_meet
                          exact ⟨congrArg Value.bool (FIN.out false ⟨(fun h => by cases h), fun h => h.elim (fun h => absurd h.1 c1) (fun h => absurd h.2 c4)⟩), rfl⟩
                      · have c3b : ((r : Int) == (k : Int)) = false := beq_eq_false_iff_ne.2 (by omega)
                        go_wp2
                        go_meet
                        exact ⟨congrArg Value.bool (FIN.out false ⟨(fun h => by cases h), fun h => h.elim (fun h => absurd h.1 c1) (fun h => absurd h.1 c3)⟩), rfl⟩
                  case rest =>
                    obtain ⟨rfl, rfl⟩ := hcut
                    clear hy hy'
                    by_cases c5 : r < i
                    · have c5z : (r : Int) < (i : Int) := by omega
                      by_cases c7 : i = k
                      · have c7b : ((i : Int) == (k : Int)) = true := beq_iff_eq.2 (by omega)
                        have hyy := HYY.out (.inl c5) (.inl c7)
                        subst hyy
                        have hneq := fun W => neq_cell y'.t y'.t y'.w y'.w y'.f y'.f y'.b y'.b y'.g y'.g W
                        rw [decide_eq_true rfl] at hneq
                        have C7 := Lib.hid c7
                        clear c7 HYY
                        go_wp2
                        go_region
                        go_wp2
                        go_roundg gf
                        case measure => omega
                        case rel => exact ⟨r + 1, by omega, by omega, by go_num, hA.out.drew⟩
                      · have c7b : ((i : Int) == (k : Int)) = false := beq_eq_false_iff_ne.2 (by omega)
                        cases hb
                        · have hnot : ¬ ((r + 1 = i ∧ y.w = 2) ∨ (r = k ∧ y.w = 0)) := of_decide_eq_false HHB.out
                          have hyy := HYY.out (.inl c5) (.inr hnot)
                          subst hyy
                          have hneq := fun W => neq_cell y'.t y'.t y'.w y'.w y'.f y'.f y'.b y'.b y'.g y'.g W
                          rw [decide_eq_true rfl] at hneq
                          clear hnot HYY
                          go_wp2
                          go_region
                          go_wp2
                          go_roundg gf
                          case measure => omega
                          case rel => exact ⟨r + 1, by omega, by omega, by go_num, hA.out.drew⟩
                        · clear HYY
                          go_wp2
                          go_region
                          go_wp2
                          go_roundg gf
                          case measure => omega
                          case rel => exact ⟨r + 1, by omega, by omega, by go_num, hA.out.drew⟩
                    · have c5z : ¬ (r : Int) < (i : Int) := by omega
                      by_cases c6 : k ≤ r
                      · have c6z : (k : Int) ≤ (r : Int) := by omega
                        by_cases c7 : i = k
                        · have c7b : ((i : Int) == (k : Int)) = true := beq_iff_eq.2 (by omega)
                          have hyy := HYY.out (.inr c6) (.inl c7)
                          subst hyy
                          have hneq := fun W => neq_cell y'.t y'.t y'.w y'.w y'.f y'.f y'.b y'.b y'.g y'.g W
                          rw [decide_eq_true rfl] at hneq
                          have C7 := Lib.hid c7
                          clear c7 HYY
                          go_wp2
                          go_region
                          go_wp2
                          go_roundg gf
                          case measure => omega
                          case rel => exact ⟨r + 1, by omega, by omega, by go_num, hA.out.drew⟩
                        · have c7b : ((i : Int) == (k : Int)) = false := beq_eq_false_iff_ne.2 (by omega)
                          cases hb
                          · have hnot : ¬ ((r + 1 = i ∧ y.w = 2) ∨ (r = k ∧ y.w = 0)) := of_decide_eq_false HHB.out
                            have hyy := HYY.out (.inr c6) (.inr hnot)
                            subst hyy
                            have hneq := fun W => neq_cell y'.t y'.t y'.w y'.w y'.f y'.f y'.b y'.b y'.g y'.g W
                            rw [decide_eq_true rfl] at hneq
                            clear hnot HYY
                            go_wp2
                            go_region
                            go_wp2
                            go_roundg gf
                            case measure => omega
                            case rel => exact ⟨r + 1, by omega, by omega, by go_num, hA.out.drew⟩
                          · clear HYY
                            go_wp2
                            go_region
                            go_wp2
                            go_roundg gf
                            case measure => omega
                            case rel => exact ⟨r + 1, by omega, by omega, by go_num, hA.out.drew⟩
                      · have c6z : ¬ (k : Int) ≤ (r : Int) := by omega
                        clear HYY
                        go_wp2
                        go_region
                        go_wp2
                        go_roundg gf
                        case measure => omega
                        case rel => exact ⟨r + 1, by omega, by omega, by go_num, hA.out.drew⟩
                · have hz : ¬ (r : Int) < (n : Int) := by omega
                  clear hA
                  go_wp2_with fail
                  refine (awake_true wr (HT.out _ Br.out)).mono ?_
                  rintro e wz ⟨rfl, bz⟩
                  go_wp2
                  go_ret
                  exact ⟨rfl, Br.out.trans (bz.mono Br.out.size)⟩
    · have hqb : (((q : Nat) : Int) != 0) = true := nat_ne h0
      clear hq
      go_enter Tryd.func10, Tryd.ntmps10
      go_wp2_with fail
      refine (CG.out).mono ?_
      rintro e w0 ⟨rfl, rfl⟩
      clear CG
      go_wp2_with fail
      refine (CC.out).mono ?_
      rintro e w1 ⟨rfl, b1⟩
      have B1 := Lib.hid (HW.out.trans (b1.mono HW.out.size))
      have BW1 := Lib.hid b1
      clear b1 CC
      go_wp2_with fail
      refine (awake_true w1 (HT.out _ B1.out)).mono ?_
      rintro e wz ⟨rfl, bz⟩
      go_wp2
      go_ret
      exact ⟨rfl, B1.out.trans (bz.mono B1.out.size)⟩
  · rw [hg] at CG
    clear hr hT hg
    go_enter Tryd.func10, Tryd.ntmps10
    go_wp2_with fail
    refine (CG.out).mono ?_
    rintro e w0 ⟨rfl, rfl⟩
    clear CG
    go_wp2_with fail
    refine (awake_true W (HT.out _ HW.out)).mono ?_
    rintro e wz ⟨rfl, bz⟩
    go_wp2
    go_ret
    exact ⟨rfl, HW.out.trans (bz.mono HW.out.size)⟩

end Go.Proofs.YtcljmmadimldlaaDoor
