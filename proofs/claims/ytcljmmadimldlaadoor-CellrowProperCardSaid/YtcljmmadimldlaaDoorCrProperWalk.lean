/-
  The statement on proper results returns true, for every row.
-/
import Derived.Test.YtcljmmadimldlaaDoorCrRight
namespace Go.Proofs.YtcljmmadimldlaaDoor
open Go.RowKit Go.Shelf Cr

theorem Right.len {n : Nat} {l : List C} {e : Nat} (h : Right n l e) (hn : n ≤ 132) : l.length ≤ 132 := by
  rcases h with ⟨_, rfl⟩ | ⟨_, h, _⟩
  · simp
  · omega

set_option maxHeartbeats 6000000 in
set_option maxRecDepth 100000 in
theorem proper_walk (A : Option Addr) (n c : Nat) (l : List C) (col x : Int) (t : ByteArray) (f b g : Int) (w : World) (hr : Rd w A n l) (hnc : n ≤ c) (hmax : n ≤ 9223372036854775807) (_hc0 : -9223372036854775808 ≤ col) (_hc1 : col ≤ 9223372036854775807) (hx0 : -9223372036854775808 ≤ x) (hx1 : x ≤ 9223372036854775807) (htm : t.size ≤ 9223372036854775807) (hT : Lib.Utf8Tabs 0 1 w) :
    Calls Tryd.prog 7 #[.slice A n c, .int .i64 col, .int .i64 x, .string t, .agg #[.int .i64 f, .int .i64 b, .int .i64 g]] w fun e w' => e = .returned (.bool true) ∧ Below w.heap.size w w' := by
  have hl : l.length = n := hr.1
  obtain ⟨W, hW⟩ : ∃ W, (w.alloc (.cells #[.slice A n c] 22)).alloc (.cells #[.int .i64 f, .int .i64 b, .int .i64 g] 24) = W := ⟨_, rfl⟩
  have bW1 := (Below.refl w.heap.size w).alloc (Nat.le_refl _) (.cells #[.slice A n c] 22)
  have bW : Below w.heap.size w W := by rw [← hW]; exact bW1.alloc bW1.size _
  have hkL : W.heap[w.heap.size]? = some (.cells #[.slice A n c] 22) := by rw [← hW]; exact (((Below.refl _ _).alloc (Nat.le_refl _) _).block w.heap.size (by simp)).trans (heap_alloc_new w _)
  have hkA : W.heap[w.heap.size + 1]? = some (.cells #[.int .i64 f, .int .i64 b, .int .i64 g] 24) := by
    have h := heap_alloc_new (w.alloc (.cells #[.slice A n c] 22)) (.cells #[.int .i64 f, .int .i64 b, .int .i64 g] 24)
    rw [← hW]
    simpa using h
  have HKL := Lib.hid (fun W' (h : Below W.heap.size W W') => (h.block _ (Array.getElem?_eq_some_iff.1 hkL).1).trans hkL)
  have HKA := Lib.hid (fun W' (h : Below W.heap.size W W') => (h.block _ (Array.getElem?_eq_some_iff.1 hkA).1).trans hkA)
  have z0 := cell_of_row W _ 0 _ _ _ hkL
  have HR := Lib.hid hr
  have HW := Lib.hid bW
  have HT := Lib.hid (fun W' (h : Below w.heap.size w W') => Utf8Tabs_below hT h)
  have CG := Lib.hid (great_any A n c l W (hr.below bW))
  clear bW1 bW hkA hkL
  cases hg : great l
  · rw [hg] at CG
    have hsm := sm_of hg
    have CC := Lib.hid (checkRow_any A n c l W (HR.out.below HW.out) hnc hmax hsm.1 (HT.out W HW.out))
    obtain ⟨q, hq⟩ : ∃ q, check l = q := ⟨_, rfl⟩
    rw [hq] at CC
    have HSM := Lib.hid hsm.1
    clear hr hT hg hsm
    by_cases h40 : 40 < t.size
    · have h40z : (40 : Int) < (t.size : Int) := by omega
      clear hq CC
      go_enter Tryd.func7, Tryd.ntmps7
      go_wp2_with fail
      refine (CG.out).mono ?_
      rintro e w0 ⟨rfl, rfl⟩
      clear CG
      go_wp2_with fail
      refine (awake_true W (HT.out _ HW.out)).mono ?_
      rintro e wz ⟨rfl, bz⟩
      go_wp2
      go_ret
      exact ⟨rfl, HW.out.trans (bz.mono HW.out.size)⟩
    · have h40z : ¬ (40 : Int) < (t.size : Int) := by omega
      by_cases h0 : q = 0
      · subst h0
        have hP := check_zero.1 hq
        have FP := Lib.hid (fun W' (h : Below w.heap.size w W') => put_any A n c l col t f b g W' (HR.out.below h) hnc hmax HSM.out (by omega) (HT.out W' h))
        have FI := Lib.hid (fun W' (h : Below w.heap.size w W') => insert_any A n c l col x f b g W' (HR.out.below h) hnc hmax HSM.out (HT.out W' h))
        have FD := Lib.hid (fun W' (h : Below w.heap.size w W') => delete_any A n c l col x f b g W' (HR.out.below h) hnc hmax HSM.out (HT.out W' h))
        have FE := Lib.hid (fun W' (h : Below w.heap.size w W') => erase_any A n c l col x f b g W' (HR.out.below h) hnc hmax HSM.out (HT.out W' h))
        have FF := Lib.hid (fun W' (h : Below w.heap.size w W') => fit_any A n c l x W' (HR.out.below h) hnc hmax HSM.out (HT.out W' h))
        have RP := Lib.hid (right_put hP.2.2 hP.1 hP.2.1 col t f b g)
        have RI := Lib.hid (right_ins hP.2.2 hP.1 hP.2.1 col x b)
        have RD := Lib.hid (right_del hP.2.2 hP.1 hP.2.1 col x b)
        have RE := Lib.hid (right_era hP.2.2 hP.1 hP.2.1 col x b)
        have SP := Lib.hid (Sm_putL HSM.out col (t := t) (by omega) f b g)
        have SI := Lib.hid (Sm_insL HSM.out col x b)
        have SD := Lib.hid (Sm_delL HSM.out col x b)
        have SE := Lib.hid (Sm_eraL HSM.out col x b)
        have SF := Lib.hid (Sm_fitL HSM.out x)
        rw [hl] at RP RI RD RE
        have hn132 : n ≤ 132 := by omega
        generalize putL l col t f b g = lp at FP RP SP
        generalize putE l col t = ep at FP RP
        generalize insL l col x b = li at FI RI SI
        generalize delL l col x b = ld at FD RD SD
        generalize colE l col = ec at FI FD RI RD
        generalize eraL l col x b = le at FE RE SE
        generalize eraE l col x = ee at FE RE
        by_cases h1 : 1 ≤ x ∧ x ≤ 132
        · have eF : fitL l x = fit l x.toNat := by unfold fitL; rw [if_pos ⟨hq, h1⟩]
          rw [eF] at FF SF
          have hfl : (fit l x.toNat).length = x.toNat := fit_length l _
          have hfc : check (fit l x.toNat) = 0 := check_good (fit_Pr hP.2.2 _) (by omega) (by omega)
          obtain ⟨v, rfl⟩ : ∃ v : Nat, x = (v : Int) := ⟨x.toNat, by omega⟩
          rw [Int.toNat_natCast] at FF SF hfl hfc
          have FC := Lib.hid (fun (A' : Option Addr) (c' : Nat) W' (hr' : Rd W' A' v (fit l v)) (hc' : v ≤ c') (h : Below w.heap.size w W') => checkRow_any A' v c' (fit l v) W' hr' hc' (by omega) SF.out (HT.out W' h))
          rw [hfc] at FC
          have HFL := Lib.hid hfl
          have h1a : ¬ (v : Int) < 1 := by omega
          have h1b : ¬ (132 : Int) < (v : Int) := by omega
          generalize fit l v = lf at FF SF FC HFL
          clear hq eF hfl hfc h1 hP
          go_enter Tryd.func7, Tryd.ntmps7
          go_wp2_with fail
          refine (CG.out).mono ?_
          rintro e w0 ⟨rfl, rfl⟩
          clear CG
          go_wp2_with fail
          refine (CC.out).mono ?_
          rintro e w1 ⟨rfl, b1⟩
          have B1 := Lib.hid (HW.out.trans (b1.mono HW.out.size))
          have BW1 := Lib.hid b1
          clear b1 CC
          clear z0
          have z0 := cell_of_row w1 _ 0 _ _ _ (HKL.out w1 BW1.out)
          have q0 := cell_of_row w1 _ 0 _ _ _ (HKA.out w1 BW1.out)
          have q1 := cell_of_row w1 _ 1 _ _ _ (HKA.out w1 BW1.out)
          have q2 := cell_of_row w1 _ 2 _ _ _ (HKA.out w1 BW1.out)
          go_wp2_with fail
          refine (FP.out w1 B1.out).mono ?_
          rintro e w2 ⟨A2, n2, c2, rfl, g2⟩
          have B2 := Lib.hid (B1.out.trans (g2.2.2.mono B1.out.size))
          have BW2 := Lib.hid (BW1.out.trans (g2.2.2.mono BW1.out.size))
          have G2 := Lib.hid g2
          have N2 : Hid (n2 ≤ 1000) := Lib.hid (by rw [g2.len]; have := RP.out.len hn132; omega)
          clear g2 FP z0 q0 q1 q2
          have z0 := cell_of_row w2 _ 0 _ _ _ (HKL.out w2 BW2.out)
          have q0 := cell_of_row w2 _ 0 _ _ _ (HKA.out w2 BW2.out)
          have q1 := cell_of_row w2 _ 1 _ _ _ (HKA.out w2 BW2.out)
          have q2 := cell_of_row w2 _ 2 _ _ _ (HKA.out w2 BW2.out)
          go_wp2_with fail
          refine (FI.out w2 B2.out).mono ?_
          rintro e w3 ⟨A3, n3, c3, rfl, g3⟩
          have B3 := Lib.hid (B2.out.trans (g3.2.2.mono B2.out.size))
          have BW3 := Lib.hid (BW2.out.trans (g3.2.2.mono BW2.out.size))
          have G3 := Lib.hid g3
          have N3 : Hid (n3 ≤ 1000) := Lib.hid (by rw [g3.len]; have := RI.out.len hn132; omega)
          clear g3 FI z0 q0 q1 q2
          have z0 := cell_of_row w3 _ 0 _ _ _ (HKL.out w3 BW3.out)
          have q0 := cell_of_row w3 _ 0 _ _ _ (HKA.out w3 BW3.out)
          have q1 := cell_of_row w3 _ 1 _ _ _ (HKA.out w3 BW3.out)
          have q2 := cell_of_row w3 _ 2 _ _ _ (HKA.out w3 BW3.out)
          go_wp2_with fail
          refine (FD.out w3 B3.out).mono ?_
          rintro e w4 ⟨A4, n4, c4, rfl, g4⟩
          have B4 := Lib.hid (B3.out.trans (g4.2.2.mono B3.out.size))
          have BW4 := Lib.hid (BW3.out.trans (g4.2.2.mono BW3.out.size))
          have G4 := Lib.hid g4
          have N4 : Hid (n4 ≤ 1000) := Lib.hid (by rw [g4.len]; have := RD.out.len hn132; omega)
          clear g4 FD z0 q0 q1 q2
          have z0 := cell_of_row w4 _ 0 _ _ _ (HKL.out w4 BW4.out)
          have q0 := cell_of_row w4 _ 0 _ _ _ (HKA.out w4 BW4.out)
          have q1 := cell_of_row w4 _ 1 _ _ _ (HKA.out w4 BW4.out)
          have q2 := cell_of_row w4 _ 2 _ _ _ (HKA.out w4 BW4.out)
          go_wp2_with fail
          refine (FE.out w4 B4.out).mono ?_
          rintro e w5 ⟨A5, n5, c5, rfl, g5⟩
          have B5 := Lib.hid (B4.out.trans (g5.2.2.mono B4.out.size))
          have BW5 := Lib.hid (BW4.out.trans (g5.2.2.mono BW4.out.size))
          have G5 := Lib.hid g5
          have N5 : Hid (n5 ≤ 1000) := Lib.hid (by rw [g5.len]; have := RE.out.len hn132; omega)
          clear g5 FE z0 q0 q1 q2
          have z0 := cell_of_row w5 _ 0 _ _ _ (HKL.out w5 BW5.out)
          have q0 := cell_of_row w5 _ 0 _ _ _ (HKA.out w5 BW5.out)
          have q1 := cell_of_row w5 _ 1 _ _ _ (HKA.out w5 BW5.out)
          have q2 := cell_of_row w5 _ 2 _ _ _ (HKA.out w5 BW5.out)
          have K2 := Lib.hid (((G2.out.1.below G3.out.2.2).below G4.out.2.2).below G5.out.2.2)
          have K3 := Lib.hid ((G3.out.1.below G4.out.2.2).below G5.out.2.2)
          have K4 := Lib.hid (G4.out.1.below G5.out.2.2)
          have K5 := Lib.hid G5.out.1
          have Q5 := Lib.hid (right_any w.heap.size A n c A2 n2 c2 lp ep w5 z0 K2.out G2.out.2.1.2 N2.out SP.out RP.out (HT.out w5 B5.out))
          clear q0 q1 q2
          go_wp2_with fail
          refine (Q5.out).mono ?_
          rintro e w6 ⟨rfl, b6⟩
          have B6 := Lib.hid (B5.out.trans (b6.mono B5.out.size))
          have BW6 := Lib.hid (BW5.out.trans (b6.mono BW5.out.size))
          have z6 := cell_of_row w6 _ 0 _ _ _ (HKL.out w6 BW6.out)
          have D6 := Lib.hid b6
          have Q6 := Lib.hid (right_any w.heap.size A n c A3 n3 c3 li ec w6 z6 ((K3.out).below D6.out) G3.out.2.1.2 N3.out SI.out RI.out (HT.out w6 B6.out))
          clear b6 Q5 z0
          go_wp2_with fail
          refine (Q6.out).mono ?_
          rintro e w7 ⟨rfl, b7⟩
          have B7 := Lib.hid (B6.out.trans (b7.mono B6.out.size))
          have BW7 := Lib.hid (BW6.out.trans (b7.mono BW6.out.size))
          have z7 := cell_of_row w7 _ 0 _ _ _ (HKL.out w7 BW7.out)
          have D7 := Lib.hid b7
          have Q7 := Lib.hid (right_any w.heap.size A n c A4 n4 c4 ld ec w7 z7 (((K4.out).below D6.out).below D7.out) G4.out.2.1.2 N4.out SD.out RD.out (HT.out w7 B7.out))
          clear b7 Q6 z6
          go_wp2_with fail
          refine (Q7.out).mono ?_
          rintro e w8 ⟨rfl, b8⟩
          have B8 := Lib.hid (B7.out.trans (b8.mono B7.out.size))
          have BW8 := Lib.hid (BW7.out.trans (b8.mono BW7.out.size))
          have z8 := cell_of_row w8 _ 0 _ _ _ (HKL.out w8 BW8.out)
          have D8 := Lib.hid b8
          have Q8 := Lib.hid (right_any w.heap.size A n c A5 n5 c5 le ee w8 z8 ((((K5.out).below D6.out).below D7.out).below D8.out) G5.out.2.1.2 N5.out SE.out RE.out (HT.out w8 B8.out))
          clear b8 Q7 z7
          go_wp2_with fail
          refine (Q8.out).mono ?_
          rintro e w9 ⟨rfl, b9⟩
          have B9 := Lib.hid (B8.out.trans (b9.mono B8.out.size))
          have BW9 := Lib.hid (BW8.out.trans (b9.mono BW8.out.size))
          have z9 := cell_of_row w9 _ 0 _ _ _ (HKL.out w9 BW9.out)
          clear b9 Q8 z8
          go_wp2_with fail
          refine (FF.out w9 B9.out).mono ?_
          rintro e w10 ⟨A10, n10, c10, rfl, g10⟩
          have hn10 : n10 = v := by rw [g10.len, HFL.out]
          subst hn10
          have B10 := Lib.hid (B9.out.trans (g10.2.2.mono B9.out.size))
          have C10 := Lib.hid (FC.out A10 c10 w10 g10.1 g10.2.1.2 B10.out)
          clear g10 FF FC z9
          go_wp2_with fail
          refine (C10.out).mono ?_
          rintro e w11 ⟨rfl, b11⟩
          have B11 := Lib.hid (B10.out.trans (b11.mono B10.out.size))
          clear b11 C10
          go_wp2_with fail
          refine (awake_true w11 (HT.out _ B11.out)).mono ?_
          rintro e wz ⟨rfl, bz⟩
          go_wp2
          go_ret
          exact ⟨rfl, B11.out.trans (bz.mono B11.out.size)⟩
        · have eF : fitL l x = [] := by unfold fitL; rw [if_neg (fun h => h1 h.2)]
          rw [eF] at FF
          have hor : x < 1 ∨ (¬ x < 1 ∧ 132 < x) := by omega
          clear hq eF SF h1 hP
          rcases hor with h1a | ⟨h1a, h1b⟩
          · go_enter Tryd.func7, Tryd.ntmps7
            go_wp2_with fail
            refine (CG.out).mono ?_
            rintro e w0 ⟨rfl, rfl⟩
            clear CG
            go_wp2_with fail
            refine (CC.out).mono ?_
            rintro e w1 ⟨rfl, b1⟩
            have B1 := Lib.hid (HW.out.trans (b1.mono HW.out.size))
            have BW1 := Lib.hid b1
            clear b1 CC
            clear z0
            have z0 := cell_of_row w1 _ 0 _ _ _ (HKL.out w1 BW1.out)
            have q0 := cell_of_row w1 _ 0 _ _ _ (HKA.out w1 BW1.out)
            have q1 := cell_of_row w1 _ 1 _ _ _ (HKA.out w1 BW1.out)
            have q2 := cell_of_row w1 _ 2 _ _ _ (HKA.out w1 BW1.out)
            go_wp2_with fail
            refine (FP.out w1 B1.out).mono ?_
            rintro e w2 ⟨A2, n2, c2, rfl, g2⟩
            have B2 := Lib.hid (B1.out.trans (g2.2.2.mono B1.out.size))
            have BW2 := Lib.hid (BW1.out.trans (g2.2.2.mono BW1.out.size))
            have G2 := Lib.hid g2
            have N2 : Hid (n2 ≤ 1000) := Lib.hid (by rw [g2.len]; have := RP.out.len hn132; omega)
            clear g2 FP z0 q0 q1 q2
            have z0 := cell_of_row w2 _ 0 _ _ _ (HKL.out w2 BW2.out)
            have q0 := cell_of_row w2 _ 0 _ _ _ (HKA.out w2 BW2.out)
            have q1 := cell_of_row w2 _ 1 _ _ _ (HKA.out w2 BW2.out)
            have q2 := cell_of_row w2 _ 2 _ _ _ (HKA.out w2 BW2.out)
            go_wp2_with fail
            refine (FI.out w2 B2.out).mono ?_
            rintro e w3 ⟨A3, n3, c3, rfl, g3⟩
            have B3 := Lib.hid (B2.out.trans (g3.2.2.mono B2.out.size))
            have BW3 := Lib.hid (BW2.out.trans (g3.2.2.mono BW2.out.size))
            have G3 := Lib.hid g3
            have N3 : Hid (n3 ≤ 1000) := Lib.hid (by rw [g3.len]; have := RI.out.len hn132; omega)
            clear g3 FI z0 q0 q1 q2
            have z0 := cell_of_row w3 _ 0 _ _ _ (HKL.out w3 BW3.out)
            have q0 := cell_of_row w3 _ 0 _ _ _ (HKA.out w3 BW3.out)
            have q1 := cell_of_row w3 _ 1 _ _ _ (HKA.out w3 BW3.out)
            have q2 := cell_of_row w3 _ 2 _ _ _ (HKA.out w3 BW3.out)
            go_wp2_with fail
            refine (FD.out w3 B3.out).mono ?_
            rintro e w4 ⟨A4, n4, c4, rfl, g4⟩
            have B4 := Lib.hid (B3.out.trans (g4.2.2.mono B3.out.size))
            have BW4 := Lib.hid (BW3.out.trans (g4.2.2.mono BW3.out.size))
            have G4 := Lib.hid g4
            have N4 : Hid (n4 ≤ 1000) := Lib.hid (by rw [g4.len]; have := RD.out.len hn132; omega)
            clear g4 FD z0 q0 q1 q2
            have z0 := cell_of_row w4 _ 0 _ _ _ (HKL.out w4 BW4.out)
            have q0 := cell_of_row w4 _ 0 _ _ _ (HKA.out w4 BW4.out)
            have q1 := cell_of_row w4 _ 1 _ _ _ (HKA.out w4 BW4.out)
            have q2 := cell_of_row w4 _ 2 _ _ _ (HKA.out w4 BW4.out)
            go_wp2_with fail
            refine (FE.out w4 B4.out).mono ?_
            rintro e w5 ⟨A5, n5, c5, rfl, g5⟩
            have B5 := Lib.hid (B4.out.trans (g5.2.2.mono B4.out.size))
            have BW5 := Lib.hid (BW4.out.trans (g5.2.2.mono BW4.out.size))
            have G5 := Lib.hid g5
            have N5 : Hid (n5 ≤ 1000) := Lib.hid (by rw [g5.len]; have := RE.out.len hn132; omega)
            clear g5 FE z0 q0 q1 q2
            have z0 := cell_of_row w5 _ 0 _ _ _ (HKL.out w5 BW5.out)
            have q0 := cell_of_row w5 _ 0 _ _ _ (HKA.out w5 BW5.out)
            have q1 := cell_of_row w5 _ 1 _ _ _ (HKA.out w5 BW5.out)
            have q2 := cell_of_row w5 _ 2 _ _ _ (HKA.out w5 BW5.out)
            have K2 := Lib.hid (((G2.out.1.below G3.out.2.2).below G4.out.2.2).below G5.out.2.2)
            have K3 := Lib.hid ((G3.out.1.below G4.out.2.2).below G5.out.2.2)
            have K4 := Lib.hid (G4.out.1.below G5.out.2.2)
            have K5 := Lib.hid G5.out.1
            have Q5 := Lib.hid (right_any w.heap.size A n c A2 n2 c2 lp ep w5 z0 K2.out G2.out.2.1.2 N2.out SP.out RP.out (HT.out w5 B5.out))
            clear q0 q1 q2
            go_wp2_with fail
            refine (Q5.out).mono ?_
            rintro e w6 ⟨rfl, b6⟩
            have B6 := Lib.hid (B5.out.trans (b6.mono B5.out.size))
            have BW6 := Lib.hid (BW5.out.trans (b6.mono BW5.out.size))
            have z6 := cell_of_row w6 _ 0 _ _ _ (HKL.out w6 BW6.out)
            have D6 := Lib.hid b6
            have Q6 := Lib.hid (right_any w.heap.size A n c A3 n3 c3 li ec w6 z6 ((K3.out).below D6.out) G3.out.2.1.2 N3.out SI.out RI.out (HT.out w6 B6.out))
            clear b6 Q5 z0
            go_wp2_with fail
            refine (Q6.out).mono ?_
            rintro e w7 ⟨rfl, b7⟩
            have B7 := Lib.hid (B6.out.trans (b7.mono B6.out.size))
            have BW7 := Lib.hid (BW6.out.trans (b7.mono BW6.out.size))
            have z7 := cell_of_row w7 _ 0 _ _ _ (HKL.out w7 BW7.out)
            have D7 := Lib.hid b7
            have Q7 := Lib.hid (right_any w.heap.size A n c A4 n4 c4 ld ec w7 z7 (((K4.out).below D6.out).below D7.out) G4.out.2.1.2 N4.out SD.out RD.out (HT.out w7 B7.out))
            clear b7 Q6 z6
            go_wp2_with fail
            refine (Q7.out).mono ?_
            rintro e w8 ⟨rfl, b8⟩
            have B8 := Lib.hid (B7.out.trans (b8.mono B7.out.size))
            have BW8 := Lib.hid (BW7.out.trans (b8.mono BW7.out.size))
            have z8 := cell_of_row w8 _ 0 _ _ _ (HKL.out w8 BW8.out)
            have D8 := Lib.hid b8
            have Q8 := Lib.hid (right_any w.heap.size A n c A5 n5 c5 le ee w8 z8 ((((K5.out).below D6.out).below D7.out).below D8.out) G5.out.2.1.2 N5.out SE.out RE.out (HT.out w8 B8.out))
            clear b8 Q7 z7
            go_wp2_with fail
            refine (Q8.out).mono ?_
            rintro e w9 ⟨rfl, b9⟩
            have B9 := Lib.hid (B8.out.trans (b9.mono B8.out.size))
            have BW9 := Lib.hid (BW8.out.trans (b9.mono BW8.out.size))
            have z9 := cell_of_row w9 _ 0 _ _ _ (HKL.out w9 BW9.out)
            clear b9 Q8 z8
            go_wp2_with fail
            refine (FF.out w9 B9.out).mono ?_
            rintro e w10 ⟨A10, n10, c10, rfl, g10⟩
            have hn10 : n10 = 0 := g10.len
            subst hn10
            have B10 := Lib.hid (B9.out.trans (g10.2.2.mono B9.out.size))
            clear g10 FF z9
            go_wp2_with fail
            refine (awake_true w10 (HT.out _ B10.out)).mono ?_
            rintro e wz ⟨rfl, bz⟩
            go_wp2
            go_ret
            exact ⟨rfl, B10.out.trans (bz.mono B10.out.size)⟩
          · go_enter Tryd.func7, Tryd.ntmps7
            go_wp2_with fail
            refine (CG.out).mono ?_
            rintro e w0 ⟨rfl, rfl⟩
            clear CG
            go_wp2_with fail
            refine (CC.out).mono ?_
            rintro e w1 ⟨rfl, b1⟩
            have B1 := Lib.hid (HW.out.trans (b1.mono HW.out.size))
            have BW1 := Lib.hid b1
            clear b1 CC
            clear z0
            have z0 := cell_of_row w1 _ 0 _ _ _ (HKL.out w1 BW1.out)
            have q0 := cell_of_row w1 _ 0 _ _ _ (HKA.out w1 BW1.out)
            have q1 := cell_of_row w1 _ 1 _ _ _ (HKA.out w1 BW1.out)
            have q2 := cell_of_row w1 _ 2 _ _ _ (HKA.out w1 BW1.out)
            go_wp2_with fail
            refine (FP.out w1 B1.out).mono ?_
            rintro e w2 ⟨A2, n2, c2, rfl, g2⟩
            have B2 := Lib.hid (B1.out.trans (g2.2.2.mono B1.out.size))
            have BW2 := Lib.hid (BW1.out.trans (g2.2.2.mono BW1.out.size))
            have G2 := Lib.hid g2
            have N2 : Hid (n2 ≤ 1000) := Lib.hid (by rw [g2.len]; have := RP.out.len hn132; omega)
            clear g2 FP z0 q0 q1 q2
            have z0 := cell_of_row w2 _ 0 _ _ _ (HKL.out w2 BW2.out)
            have q0 := cell_of_row w2 _ 0 _ _ _ (HKA.out w2 BW2.out)
            have q1 := cell_of_row w2 _ 1 _ _ _ (HKA.out w2 BW2.out)
            have q2 := cell_of_row w2 _ 2 _ _ _ (HKA.out w2 BW2.out)
            go_wp2_with fail
            refine (FI.out w2 B2.out).mono ?_
            rintro e w3 ⟨A3, n3, c3, rfl, g3⟩
            have B3 := Lib.hid (B2.out.trans (g3.2.2.mono B2.out.size))
            have BW3 := Lib.hid (BW2.out.trans (g3.2.2.mono BW2.out.size))
            have G3 := Lib.hid g3
            have N3 : Hid (n3 ≤ 1000) := Lib.hid (by rw [g3.len]; have := RI.out.len hn132; omega)
            clear g3 FI z0 q0 q1 q2
            have z0 := cell_of_row w3 _ 0 _ _ _ (HKL.out w3 BW3.out)
            have q0 := cell_of_row w3 _ 0 _ _ _ (HKA.out w3 BW3.out)
            have q1 := cell_of_row w3 _ 1 _ _ _ (HKA.out w3 BW3.out)
            have q2 := cell_of_row w3 _ 2 _ _ _ (HKA.out w3 BW3.out)
            go_wp2_with fail
            refine (FD.out w3 B3.out).mono ?_
            rintro e w4 ⟨A4, n4, c4, rfl, g4⟩
            have B4 := Lib.hid (B3.out.trans (g4.2.2.mono B3.out.size))
            have BW4 := Lib.hid (BW3.out.trans (g4.2.2.mono BW3.out.size))
            have G4 := Lib.hid g4
            have N4 : Hid (n4 ≤ 1000) := Lib.hid (by rw [g4.len]; have := RD.out.len hn132; omega)
            clear g4 FD z0 q0 q1 q2
            have z0 := cell_of_row w4 _ 0 _ _ _ (HKL.out w4 BW4.out)
            have q0 := cell_of_row w4 _ 0 _ _ _ (HKA.out w4 BW4.out)
            have q1 := cell_of_row w4 _ 1 _ _ _ (HKA.out w4 BW4.out)
            have q2 := cell_of_row w4 _ 2 _ _ _ (HKA.out w4 BW4.out)
            go_wp2_with fail
            refine (FE.out w4 B4.out).mono ?_
            rintro e w5 ⟨A5, n5, c5, rfl, g5⟩
            have B5 := Lib.hid (B4.out.trans (g5.2.2.mono B4.out.size))
            have BW5 := Lib.hid (BW4.out.trans (g5.2.2.mono BW4.out.size))
            have G5 := Lib.hid g5
            have N5 : Hid (n5 ≤ 1000) := Lib.hid (by rw [g5.len]; have := RE.out.len hn132; omega)
            clear g5 FE z0 q0 q1 q2
            have z0 := cell_of_row w5 _ 0 _ _ _ (HKL.out w5 BW5.out)
            have q0 := cell_of_row w5 _ 0 _ _ _ (HKA.out w5 BW5.out)
            have q1 := cell_of_row w5 _ 1 _ _ _ (HKA.out w5 BW5.out)
            have q2 := cell_of_row w5 _ 2 _ _ _ (HKA.out w5 BW5.out)
            have K2 := Lib.hid (((G2.out.1.below G3.out.2.2).below G4.out.2.2).below G5.out.2.2)
            have K3 := Lib.hid ((G3.out.1.below G4.out.2.2).below G5.out.2.2)
            have K4 := Lib.hid (G4.out.1.below G5.out.2.2)
            have K5 := Lib.hid G5.out.1
            have Q5 := Lib.hid (right_any w.heap.size A n c A2 n2 c2 lp ep w5 z0 K2.out G2.out.2.1.2 N2.out SP.out RP.out (HT.out w5 B5.out))
            clear q0 q1 q2
            go_wp2_with fail
            refine (Q5.out).mono ?_
            rintro e w6 ⟨rfl, b6⟩
            have B6 := Lib.hid (B5.out.trans (b6.mono B5.out.size))
            have BW6 := Lib.hid (BW5.out.trans (b6.mono BW5.out.size))
            have z6 := cell_of_row w6 _ 0 _ _ _ (HKL.out w6 BW6.out)
            have D6 := Lib.hid b6
            have Q6 := Lib.hid (right_any w.heap.size A n c A3 n3 c3 li ec w6 z6 ((K3.out).below D6.out) G3.out.2.1.2 N3.out SI.out RI.out (HT.out w6 B6.out))
            clear b6 Q5 z0
            go_wp2_with fail
            refine (Q6.out).mono ?_
            rintro e w7 ⟨rfl, b7⟩
            have B7 := Lib.hid (B6.out.trans (b7.mono B6.out.size))
            have BW7 := Lib.hid (BW6.out.trans (b7.mono BW6.out.size))
            have z7 := cell_of_row w7 _ 0 _ _ _ (HKL.out w7 BW7.out)
            have D7 := Lib.hid b7
            have Q7 := Lib.hid (right_any w.heap.size A n c A4 n4 c4 ld ec w7 z7 (((K4.out).below D6.out).below D7.out) G4.out.2.1.2 N4.out SD.out RD.out (HT.out w7 B7.out))
            clear b7 Q6 z6
            go_wp2_with fail
            refine (Q7.out).mono ?_
            rintro e w8 ⟨rfl, b8⟩
            have B8 := Lib.hid (B7.out.trans (b8.mono B7.out.size))
            have BW8 := Lib.hid (BW7.out.trans (b8.mono BW7.out.size))
            have z8 := cell_of_row w8 _ 0 _ _ _ (HKL.out w8 BW8.out)
            have D8 := Lib.hid b8
            have Q8 := Lib.hid (right_any w.heap.size A n c A5 n5 c5 le ee w8 z8 ((((K5.out).below D6.out).below D7.out).below D8.out) G5.out.2.1.2 N5.out SE.out RE.out (HT.out w8 B8.out))
            clear b8 Q7 z7
            go_wp2_with fail
            refine (Q8.out).mono ?_
            rintro e w9 ⟨rfl, b9⟩
            have B9 := Lib.hid (B8.out.trans (b9.mono B8.out.size))
            have BW9 := Lib.hid (BW8.out.trans (b9.mono BW8.out.size))
            have z9 := cell_of_row w9 _ 0 _ _ _ (HKL.out w9 BW9.out)
            clear b9 Q8 z8
            go_wp2_with fail
            refine (FF.out w9 B9.out).mono ?_
            rintro e w10 ⟨A10, n10, c10, rfl, g10⟩
            have hn10 : n10 = 0 := g10.len
            subst hn10
            have B10 := Lib.hid (B9.out.trans (g10.2.2.mono B9.out.size))
            clear g10 FF z9
            go_wp2_with fail
            refine (awake_true w10 (HT.out _ B10.out)).mono ?_
            rintro e wz ⟨rfl, bz⟩
            go_wp2
            go_ret
            exact ⟨rfl, B10.out.trans (bz.mono B10.out.size)⟩
      · have hqb : (((q : Nat) : Int) != 0) = true := nat_ne h0
        clear hq
        go_enter Tryd.func7, Tryd.ntmps7
        go_wp2_with fail
        refine (CG.out).mono ?_
        rintro e w0 ⟨rfl, rfl⟩
        clear CG
        go_wp2_with fail
        refine (CC.out).mono ?_
        rintro e w1 ⟨rfl, b1⟩
        have B1 := Lib.hid (HW.out.trans (b1.mono HW.out.size))
        have BW1 := Lib.hid b1
        clear b1 CC
        go_wp2_with fail
        refine (awake_true w1 (HT.out _ B1.out)).mono ?_
        rintro e wz ⟨rfl, bz⟩
        go_wp2
        go_ret
        exact ⟨rfl, B1.out.trans (bz.mono B1.out.size)⟩
  · rw [hg] at CG
    clear hr hT hg
    go_enter Tryd.func7, Tryd.ntmps7
    go_wp2_with fail
    refine (CG.out).mono ?_
    rintro e w0 ⟨rfl, rfl⟩
    clear CG
    go_wp2_with fail
    refine (awake_true W (HT.out _ HW.out)).mono ?_
    rintro e wz ⟨rfl, bz⟩
    go_wp2
    go_ret
    exact ⟨rfl, HW.out.trans (bz.mono HW.out.size)⟩

end Go.Proofs.YtcljmmadimldlaaDoor
