/-
  The statement on inserting and deleting returns true.
-/
import Derived.Test.YtcljmmadimldlaaDoorCrFitsWalk
namespace Go.Proofs.YtcljmmadimldlaaDoor
open Go.RowKit Go.Shelf Cr

set_option maxHeartbeats 4000000 in
set_option maxRecDepth 100000 in
theorem insdel_walk (A : Option Addr) (n c : Nat) (l : List C) (col x : Int) (f b g f' b' g' : Int) (w : World) (hr : Rd w A n l) (hnc : n ≤ c) (hmax : n ≤ 9223372036854775807) (hc0 : -9223372036854775808 ≤ col) (hc1 : col ≤ 9223372036854775807) (hx0 : -9223372036854775808 ≤ x) (hx1 : x ≤ 9223372036854775807) (hT : Lib.Utf8Tabs 0 1 w) :
    Calls Tryd.prog 9 #[.slice A n c, .int .i64 col, .int .i64 x, .agg #[.int .i64 f, .int .i64 b, .int .i64 g], .agg #[.int .i64 f', .int .i64 b', .int .i64 g']] w fun e w' => e = .returned (.bool true) ∧ Below w.heap.size w w' := by
  have hl : l.length = n := hr.1
  obtain ⟨W, hW⟩ : ∃ W, (w.alloc (.cells #[.int .i64 f, .int .i64 b, .int .i64 g] 24)).alloc (.cells #[.int .i64 f', .int .i64 b', .int .i64 g'] 24) = W := ⟨_, rfl⟩
  have bW1 := (Below.refl w.heap.size w).alloc (Nat.le_refl _) (.cells #[.int .i64 f, .int .i64 b, .int .i64 g] 24)
  have bW : Below w.heap.size w W := by rw [← hW]; exact bW1.alloc bW1.size _
  have hkA : W.heap[w.heap.size]? = some (.cells #[.int .i64 f, .int .i64 b, .int .i64 g] 24) := by rw [← hW]; exact (((Below.refl _ _).alloc (Nat.le_refl _) _).block w.heap.size (by simp)).trans (heap_alloc_new w _)
  have hkB : W.heap[w.heap.size + 1]? = some (.cells #[.int .i64 f', .int .i64 b', .int .i64 g'] 24) := by
    have h := heap_alloc_new (w.alloc (.cells #[.int .i64 f, .int .i64 b, .int .i64 g] 24)) (.cells #[.int .i64 f', .int .i64 b', .int .i64 g'] 24)
    rw [← hW]
    simpa using h
  have HKA := Lib.hid (fun W' (h : Below W.heap.size W W') => (h.block _ (Array.getElem?_eq_some_iff.1 hkA).1).trans hkA)
  have HKB := Lib.hid (fun W' (h : Below W.heap.size W W') => (h.block _ (Array.getElem?_eq_some_iff.1 hkB).1).trans hkB)
  have HR := Lib.hid hr
  have HW := Lib.hid bW
  have HT := Lib.hid (fun W' (h : Below w.heap.size w W') => Utf8Tabs_below hT h)
  have CG := Lib.hid (great_any A n c l W (hr.below bW))
  clear bW1 bW hkA hkB
  cases hg : great l
  · rw [hg] at CG
    have hsm := sm_of hg
    have CC := Lib.hid (checkRow_any A n c l W (HR.out.below HW.out) hnc hmax hsm.1 (HT.out W HW.out))
    obtain ⟨q, hq⟩ : ∃ q, check l = q := ⟨_, rfl⟩
    rw [hq] at CC
    have HSM := Lib.hid hsm.1
    clear hr hT hg hsm
    by_cases h0 : q = 0
    · subst h0
      by_cases h1 : col < 0
      · clear hq
        go_enter Tryd.func9, Tryd.ntmps9
        go_wp2_with fail
        refine (CG.out).mono ?_
        rintro e w0 ⟨rfl, rfl⟩
        clear CG
        go_wp2_with fail
        refine (CC.out).mono ?_
        rintro e w1 ⟨rfl, b1⟩
        have B1 := Lib.hid (HW.out.trans (b1.mono HW.out.size))
        have BW1 := Lib.hid b1
        clear b1 CC
        go_wp2_with fail
        refine (awake_true w1 (HT.out _ B1.out)).mono ?_
        rintro e wz ⟨rfl, bz⟩
        go_wp2
        go_ret
        exact ⟨rfl, B1.out.trans (bz.mono B1.out.size)⟩
      · by_cases h2 : (n : Int) ≤ col
        · clear hq
          go_enter Tryd.func9, Tryd.ntmps9
          go_wp2_with fail
          refine (CG.out).mono ?_
          rintro e w0 ⟨rfl, rfl⟩
          clear CG
          go_wp2_with fail
          refine (CC.out).mono ?_
          rintro e w1 ⟨rfl, b1⟩
          have B1 := Lib.hid (HW.out.trans (b1.mono HW.out.size))
          have BW1 := Lib.hid b1
          clear b1 CC
          go_wp2_with fail
          refine (awake_true w1 (HT.out _ B1.out)).mono ?_
          rintro e wz ⟨rfl, bz⟩
          go_wp2
          go_ret
          exact ⟨rfl, B1.out.trans (bz.mono B1.out.size)⟩
        · by_cases h3 : x < 1
          · clear hq
            go_enter Tryd.func9, Tryd.ntmps9
            go_wp2_with fail
            refine (CG.out).mono ?_
            rintro e w0 ⟨rfl, rfl⟩
            clear CG
            go_wp2_with fail
            refine (CC.out).mono ?_
            rintro e w1 ⟨rfl, b1⟩
            have B1 := Lib.hid (HW.out.trans (b1.mono HW.out.size))
            have BW1 := Lib.hid b1
            clear b1 CC
            go_wp2_with fail
            refine (awake_true w1 (HT.out _ B1.out)).mono ?_
            rintro e wz ⟨rfl, bz⟩
            go_wp2
            go_ret
            exact ⟨rfl, B1.out.trans (bz.mono B1.out.size)⟩
          · have hP := check_zero.1 hq
            obtain ⟨k, rfl⟩ : ∃ k : Nat, col = (k : Int) := ⟨col.toNat, by omega⟩
            have hkl : k < l.length := by omega
            obtain ⟨y, hy⟩ : ∃ y, l[k]? = some y := ⟨l[k], List.getElem?_eq_getElem hkl⟩
            obtain ⟨ab, ao, rfl⟩ := HR.out.addr (by omega)
            have HY := Lib.hid (fun W' (h : Below w.heap.size w W') => (HR.out.below h).at k y hy)
            have hk0 : (0 : Int) ≤ (k : Int) := by omega
            have hkn : (k : Int) < (n : Int) := by omega
            have hn132 : (n : Int) ≤ 132 := by omega
            by_cases h4 : y.w = 0
            · clear hq hP hy
              go_enter Tryd.func9, Tryd.ntmps9
              go_wp2_with fail
              refine (CG.out).mono ?_
              rintro e w0 ⟨rfl, rfl⟩
              clear CG
              go_wp2_with fail
              refine (CC.out).mono ?_
              rintro e w1 ⟨rfl, b1⟩
              have B1 := Lib.hid (HW.out.trans (b1.mono HW.out.size))
              have BW1 := Lib.hid b1
              clear b1 CC
              obtain ⟨ab', ao', e1, _, _, p1, _⟩ := HY.out w1 B1.out
              injection e1 with e1
              injection e1 with e1 e2
              subst e1 e2
              rw [h4] at p1
              go_wp2_with fail
              refine (awake_true w1 (HT.out _ B1.out)).mono ?_
              rintro e wz ⟨rfl, bz⟩
              go_wp2
              go_ret
              exact ⟨rfl, B1.out.trans (bz.mono B1.out.size)⟩
            · have h4b : (y.w == 0) = false := by simpa using h4
              obtain ⟨m, hm⟩ : ∃ m, min x.toNat (n - k) = m := ⟨_, rfl⟩
              have hm1 : 1 ≤ m ∧ k + m ≤ n := by omega
              have hmin : min x ((n : Int) - (k : Int)) = (m : Int) := by omega
              obtain ⟨i, hi⟩ : ∃ i, n - m = i := ⟨_, rfl⟩
              have hsub : (n : Int) - (m : Int) = (i : Int) := by omega
              have eC : colE l (k : Int) = 0 := by unfold colE; rw [if_neg (by omega), if_neg (by omega)]
              have eI : insL l (k : Int) x b = ins l k m b := by unfold insL; rw [if_neg (by omega), if_neg h3, Int.toNat_natCast, hl, hm]
              have hXl : (ins l k m b).length = n := by rw [ins_length k m b (by omega), hl]
              have hXP : Pr (ins l k m b) := ins_Pr hP.2.2 k m b
              have eC2 : colE (ins l k m b) (k : Int) = 0 := by unfold colE; rw [if_neg (by rw [check_good hXP (by omega) (by omega)]; simp), if_neg (by omega)]
              have eD : delL (ins l k m b) (k : Int) x b' = del (ins l k m b) k m b' := by unfold delL; rw [if_neg (by omega), if_neg h3, Int.toNat_natCast, hXl, hm]
              have eE : eraE l (i : Int) (n : Int) = 0 := by unfold eraE; rw [if_neg (by omega), if_neg (by omega)]
              have eL : eraL l (i : Int) (n : Int) b' = del (ins l k m b) k m b' := by
                unfold eraL
                rw [if_neg (by omega), if_neg (by omega), Int.toNat_natCast, Int.toNat_natCast, ins_del hP.2.2 hy h4 hm1.1 (by omega) b b', hl, hi]
                congr 2
                omega
              have hDl : (del (ins l k m b) k m b').length = n := by rw [del_length k m b' (by omega), hXl]
              have FI := Lib.hid (fun W' (h : Below w.heap.size w W') => insert_any (some ⟨ab, ao, none⟩) n c l (k : Int) x f b g W' (HR.out.below h) hnc hmax HSM.out (HT.out W' h))
              rw [eC, eI] at FI
              have FD := Lib.hid (fun (A' : Option Addr) (c' : Nat) W' (hr' : Rd W' A' n (ins l k m b)) (hc' : n ≤ c') (h : Below w.heap.size w W') => delete_any A' n c' (ins l k m b) (k : Int) x f' b' g' W' hr' hc' hmax (Sm.ins HSM.out k m b) (HT.out W' h))
              rw [eC2, eD] at FD
              have FE := Lib.hid (fun W' (h : Below w.heap.size w W') => erase_any (some ⟨ab, ao, none⟩) n c l (i : Int) (n : Int) f' b' g' W' (HR.out.below h) hnc hmax HSM.out (HT.out W' h))
              rw [eE, eL] at FE
              have HXL := Lib.hid hXl
              have HDL := Lib.hid hDl
              have HMIN := Lib.hid hmin
              have hn1000 : n ≤ 1000 := by omega
              clear hq hP hy hm hi eC eI hXl hXP eC2 eD eE eL hDl
              go_enter Tryd.func9, Tryd.ntmps9
              go_wp2_with fail
              refine (CG.out).mono ?_
              rintro e w0 ⟨rfl, rfl⟩
              clear CG
              go_wp2_with fail
              refine (CC.out).mono ?_
              rintro e w1 ⟨rfl, b1⟩
              have B1 := Lib.hid (HW.out.trans (b1.mono HW.out.size))
              have BW1 := Lib.hid b1
              clear b1 CC
              obtain ⟨ab', ao', e1, _, _, p1, _⟩ := HY.out w1 B1.out
              injection e1 with e1
              injection e1 with e1 e2
              subst e1 e2
              have q0 := cell_of_row w1 _ 0 _ _ _ (HKA.out w1 BW1.out)
              have q1 := cell_of_row w1 _ 1 _ _ _ (HKA.out w1 BW1.out)
              have q2 := cell_of_row w1 _ 2 _ _ _ (HKA.out w1 BW1.out)
              go_wp2_with fail
              refine (FI.out w1 B1.out).mono ?_
              rintro e w2 ⟨A2, n2, c2, rfl, g2⟩
              have hn2 : n2 = n := by rw [g2.len, HXL.out]
              subst hn2
              have B2 := Lib.hid (B1.out.trans (g2.2.2.mono B1.out.size))
              have BW2 := Lib.hid (BW1.out.trans (g2.2.2.mono BW1.out.size))
              have G2 := Lib.hid g2
              clear g2 FI q0 q1 q2 p1
              have q0 := cell_of_row w2 _ 0 _ _ _ (HKB.out w2 BW2.out)
              have q1 := cell_of_row w2 _ 1 _ _ _ (HKB.out w2 BW2.out)
              have q2 := cell_of_row w2 _ 2 _ _ _ (HKB.out w2 BW2.out)
              go_wp2_with fail
              refine (FD.out A2 c2 w2 G2.out.1 G2.out.2.1.2 B2.out).mono ?_
              rintro e w3 ⟨A3, n3, c3, rfl, g3⟩
              have hn3 : n3 = n2 := by rw [g3.len, HDL.out]
              subst hn3
              have B3 := Lib.hid (B2.out.trans (g3.2.2.mono B2.out.size))
              have BW3 := Lib.hid (BW2.out.trans (g3.2.2.mono BW2.out.size))
              have G3 := Lib.hid g3
              clear g3 FD q0 q1 q2
              have q0 := cell_of_row w3 _ 0 _ _ _ (HKB.out w3 BW3.out)
              have q1 := cell_of_row w3 _ 1 _ _ _ (HKB.out w3 BW3.out)
              have q2 := cell_of_row w3 _ 2 _ _ _ (HKB.out w3 BW3.out)
              go_wp2_with fail
              refine (FE.out w3 B3.out).mono ?_
              rintro e w4 ⟨A4, n4, c4, rfl, g4⟩
              have hn4 : n4 = n3 := by rw [g4.len, HDL.out]
              subst hn4
              have B4 := Lib.hid (B3.out.trans (g4.2.2.mono B3.out.size))
              have S4 := Lib.hid (same_any A3 A4 n4 n4 c3 c4 _ _ w4 (G3.out.1.below g4.2.2) g4.1 hn1000 hn1000)
              rw [decide_eq_true rfl] at S4
              clear g4 FE q0 q1 q2
              go_wp2_with fail
              refine (S4.out).mono ?_
              rintro e w5 ⟨rfl, b5⟩
              have B5 := Lib.hid (B4.out.trans (b5.mono B4.out.size))
              clear b5 S4
              go_wp2_with fail
              refine (awake_true w5 (HT.out _ B5.out)).mono ?_
              rintro e wz ⟨rfl, bz⟩
              go_wp2
              go_ret
              exact ⟨rfl, B5.out.trans (bz.mono B5.out.size)⟩
    · have hqb : (((q : Nat) : Int) != 0) = true := nat_ne h0
      clear hq
      go_enter Tryd.func9, Tryd.ntmps9
      go_wp2_with fail
      refine (CG.out).mono ?_
      rintro e w0 ⟨rfl, rfl⟩
      clear CG
      go_wp2_with fail
      refine (CC.out).mono ?_
      rintro e w1 ⟨rfl, b1⟩
      have B1 := Lib.hid (HW.out.trans (b1.mono HW.out.size))
      have BW1 := Lib.hid b1
      clear b1 CC
      go_wp2_with fail
      refine (awake_true w1 (HT.out _ B1.out)).mono ?_
      rintro e wz ⟨rfl, bz⟩
      go_wp2
      go_ret
      exact ⟨rfl, B1.out.trans (bz.mono B1.out.size)⟩
  · rw [hg] at CG
    clear hr hT hg
    go_enter Tryd.func9, Tryd.ntmps9
    go_wp2_with fail
    refine (CG.out).mono ?_
    rintro e w0 ⟨rfl, rfl⟩
    clear CG
    go_wp2_with fail
    refine (awake_true W (HT.out _ HW.out)).mono ?_
    rintro e wz ⟨rfl, bz⟩
    go_wp2
    go_ret
    exact ⟨rfl, HW.out.trans (bz.mono HW.out.size)⟩

end Go.Proofs.YtcljmmadimldlaaDoor
