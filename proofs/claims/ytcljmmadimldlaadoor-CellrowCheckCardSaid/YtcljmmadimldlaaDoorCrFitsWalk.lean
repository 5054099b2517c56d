/-
  The statement on fitting returns true, for every row and every two widths.
-/
import Derived.Test.YtcljmmadimldlaaDoorCrMore
import Derived.Test.YtcljmmadimldlaaDoorCrSame
import Derived.Test.YtcljmmadimldlaaDoorCrAwake
namespace Go.Proofs.YtcljmmadimldlaaDoor
open Go.RowKit Go.Shelf Cr

theorem sm_of {l : List C} (h : great l = false) : Sm l ∧ l.length ≤ 140 := ⟨fun x hx => by have := (great_false h).2 x hx; omega, (great_false h).1⟩
theorem GivesC.len {w w' : World} {A : Option Addr} {n c : Nat} {l : List C} (h : GivesC w w' A n c l) : n = l.length := h.1.1.symm

set_option maxHeartbeats 4000000 in
set_option maxRecDepth 100000 in
theorem fits_walk (A : Option Addr) (n c : Nat) (l : List C) (x y : Int) (w : World) (hr : Rd w A n l) (hnc : n ≤ c) (hmax : n ≤ 9223372036854775807) (hx0 : -9223372036854775808 ≤ x) (hx1 : x ≤ 9223372036854775807) (hy0 : -9223372036854775808 ≤ y) (hy1 : y ≤ 9223372036854775807) (hT : Lib.Utf8Tabs 0 1 w) :
    Calls Tryd.prog 11 #[.slice A n c, .int .i64 x, .int .i64 y] w fun e w' => e = .returned (.bool true) ∧ Below w.heap.size w w' := by
  have hl : l.length = n := hr.1
  have HR := Lib.hid hr
  have HT := Lib.hid (fun W' (h : Below w.heap.size w W') => Utf8Tabs_below hT h)
  have BR := Lib.hid (Below.refl w.heap.size w)
  have CG := Lib.hid (great_any A n c l w hr)
  cases hg : great l
  · rw [hg] at CG
    have hsm := sm_of hg
    have CC := Lib.hid (checkRow_any A n c l w hr hnc hmax hsm.1 hT)
    obtain ⟨q, hq⟩ : ∃ q, check l = q := ⟨_, rfl⟩
    rw [hq] at CC
    have HSM := Lib.hid hsm.1
    clear hr hT hg hsm
    by_cases h0 : q = 0
    · subst h0
      by_cases h1 : x < y
      · clear hq
        go_enter Tryd.func11, Tryd.ntmps11
        go_wp2_with fail
        refine (CG.out).mono ?_
        rintro e w0 ⟨rfl, rfl⟩
        clear CG
        go_wp2_with fail
        refine (CC.out).mono ?_
        rintro e w1 ⟨rfl, b1⟩
        have B1 := Lib.hid b1
        clear b1 CC
        go_wp2_with fail
        refine (awake_true w1 (HT.out _ B1.out)).mono ?_
        rintro e wz ⟨rfl, bz⟩
        go_wp2
        go_ret
        exact ⟨rfl, B1.out.trans (bz.mono B1.out.size)⟩
      · by_cases h2 : y < 1
        · clear hq
          go_enter Tryd.func11, Tryd.ntmps11
          go_wp2_with fail
          refine (CG.out).mono ?_
          rintro e w0 ⟨rfl, rfl⟩
          clear CG
          go_wp2_with fail
          refine (CC.out).mono ?_
          rintro e w1 ⟨rfl, b1⟩
          have B1 := Lib.hid b1
          clear b1 CC
          go_wp2_with fail
          refine (awake_true w1 (HT.out _ B1.out)).mono ?_
          rintro e wz ⟨rfl, bz⟩
          go_wp2
          go_ret
          exact ⟨rfl, B1.out.trans (bz.mono B1.out.size)⟩
        · by_cases h3 : 132 < x
          · clear hq
            go_enter Tryd.func11, Tryd.ntmps11
            go_wp2_with fail
            refine (CG.out).mono ?_
            rintro e w0 ⟨rfl, rfl⟩
            clear CG
            go_wp2_with fail
            refine (CC.out).mono ?_
            rintro e w1 ⟨rfl, b1⟩
            have B1 := Lib.hid b1
            clear b1 CC
            go_wp2_with fail
            refine (awake_true w1 (HT.out _ B1.out)).mono ?_
            rintro e wz ⟨rfl, bz⟩
            go_wp2
            go_ret
            exact ⟨rfl, B1.out.trans (bz.mono B1.out.size)⟩
          · have hP := check_zero.1 hq
            have e1 : fitL l (n : Int) = l := by unfold fitL; rw [if_pos ⟨hq, by omega, by omega⟩, Int.toNat_natCast, ← hl, fit_self hP.2.2]
            obtain ⟨u, rfl⟩ : ∃ u : Nat, x = (u : Int) := ⟨x.toNat, by omega⟩
            obtain ⟨v, rfl⟩ : ∃ v : Nat, y = (v : Int) := ⟨y.toNat, by omega⟩
            have e2 : fitL l (u : Int) = fit l u := by unfold fitL; rw [if_pos ⟨hq, by omega, by omega⟩, Int.toNat_natCast]
            have e3 : fitL l (v : Int) = fit l v := by unfold fitL; rw [if_pos ⟨hq, by omega, by omega⟩, Int.toNat_natCast]
            have hc4 : check (fit l u) = 0 := check_good (fit_Pr hP.2.2 u) (by rw [fit_length]; omega) (by rw [fit_length]; omega)
            have e4 : fitL (fit l u) (v : Int) = fit l v := by unfold fitL; rw [if_pos ⟨hc4, by omega, by omega⟩, Int.toNat_natCast, fit_fit hP.2.2 (by omega)]
            have F1 := Lib.hid (fun W' (h : Below w.heap.size w W') => fit_any A n c l (n : Int) W' (HR.out.below h) hnc hmax HSM.out (HT.out W' h))
            rw [e1] at F1
            have F2 := Lib.hid (fun W' (h : Below w.heap.size w W') => fit_any A n c l (u : Int) W' (HR.out.below h) hnc hmax HSM.out (HT.out W' h))
            rw [e2] at F2
            have F3 := Lib.hid (fun W' (h : Below w.heap.size w W') => fit_any A n c l (v : Int) W' (HR.out.below h) hnc hmax HSM.out (HT.out W' h))
            rw [e3] at F3
            have F4 := Lib.hid (fun (A' : Option Addr) (c' : Nat) W' (hr' : Rd W' A' u (fit l u)) (hc' : u ≤ c') (h : Below w.heap.size w W') => fit_any A' u c' (fit l u) (v : Int) W' hr' hc' (by omega) (Sm.fit HSM.out u) (HT.out W' h))
            rw [e4] at F4
            have hvl : (fit l v).length = v := fit_length l v
            have hul : (fit l u).length = u := fit_length l u
            have HVL := Lib.hid hvl
            have HUL := Lib.hid hul
            have hn132 : n ≤ 1000 := by omega
            have hv132 : v ≤ 1000 := by omega
            clear hq e1 e2 e3 e4 hc4 hvl hul hP
            go_enter Tryd.func11, Tryd.ntmps11
            go_wp2_with fail
            refine (CG.out).mono ?_
            rintro e w0 ⟨rfl, rfl⟩
            clear CG
            go_wp2_with fail
            refine (CC.out).mono ?_
            rintro e w1 ⟨rfl, b1⟩
            have B1 := Lib.hid b1
            clear b1 CC
            go_wp2_with fail
            refine (F1.out w1 B1.out).mono ?_
            rintro e w2 ⟨A2, n2, c2, rfl, g2⟩
            have hn2 : n2 = n := by rw [g2.len, hl]
            subst hn2
            have B2 := Lib.hid (B1.out.trans (g2.2.2.mono B1.out.size))
            have S2 := Lib.hid (same_any A2 A n2 n2 c2 c l l w2 g2.1 (HR.out.below B2.out) hn132 hn132)
            rw [decide_eq_true rfl] at S2
            clear g2 F1
            go_wp2_with fail
            refine (S2.out).mono ?_
            rintro e w3 ⟨rfl, b3⟩
            have B3 := Lib.hid (B2.out.trans (b3.mono B2.out.size))
            clear b3 S2
            go_wp2_with fail
            refine (F2.out w3 B3.out).mono ?_
            rintro e w4 ⟨A4, n4, c4, rfl, g4⟩
            have hn4 : n4 = u := by rw [g4.len, HUL.out]
            subst hn4
            have B4 := Lib.hid (B3.out.trans (g4.2.2.mono B3.out.size))
            have G4 := Lib.hid g4
            clear g4 F2
            go_wp2_with fail
            refine (F4.out A4 c4 w4 G4.out.1 G4.out.2.1.2 B4.out).mono ?_
            rintro e w5 ⟨A5, n5, c5, rfl, g5⟩
            have hn5 : n5 = v := by rw [g5.len, HVL.out]
            subst hn5
            have B5 := Lib.hid (B4.out.trans (g5.2.2.mono B4.out.size))
            have G5 := Lib.hid g5
            clear g5 F4
            go_wp2_with fail
            refine (F3.out w5 B5.out).mono ?_
            rintro e w6 ⟨A6, n6, c6, rfl, g6⟩
            have hn6 : n6 = n5 := by rw [g6.len, HVL.out]
            subst hn6
            have B6 := Lib.hid (B5.out.trans (g6.2.2.mono B5.out.size))
            have S6 := Lib.hid (same_any A5 A6 n6 n6 c5 c6 (fit l n6) (fit l n6) w6 (G5.out.1.below g6.2.2) g6.1 hv132 hv132)
            rw [decide_eq_true rfl] at S6
            clear g6 F3
            go_wp2_with fail
            refine (S6.out).mono ?_
            rintro e w7 ⟨rfl, b7⟩
            have B7 := Lib.hid (B6.out.trans (b7.mono B6.out.size))
            clear b7 S6
            go_wp2_with fail
            refine (awake_true w7 (HT.out _ B7.out)).mono ?_
            rintro e wz ⟨rfl, bz⟩
            go_wp2
            go_ret
            exact ⟨rfl, B7.out.trans (bz.mono B7.out.size)⟩
    · have hqb : (((q : Nat) : Int) != 0) = true := nat_ne h0
      clear hq
      go_enter Tryd.func11, Tryd.ntmps11
      go_wp2_with fail
      refine (CG.out).mono ?_
      rintro e w0 ⟨rfl, rfl⟩
      clear CG
      go_wp2_with fail
      refine (CC.out).mono ?_
      rintro e w1 ⟨rfl, b1⟩
      have B1 := Lib.hid b1
      clear b1 CC
      go_wp2_with fail
      refine (awake_true w1 (HT.out _ B1.out)).mono ?_
      rintro e wz ⟨rfl, bz⟩
      go_wp2
      go_ret
      exact ⟨rfl, B1.out.trans (bz.mono B1.out.size)⟩
  · rw [hg] at CG
    clear hr hT hg
    go_enter Tryd.func11, Tryd.ntmps11
    go_wp2_with fail
    refine (CG.out).mono ?_
    rintro e w0 ⟨rfl, rfl⟩
    clear CG
    go_wp2_with fail
    refine (awake_true w (HT.out _ BR.out)).mono ?_
    rintro e wz ⟨rfl, bz⟩
    go_wp2
    go_ret
    exact ⟨rfl, BR.out.trans (bz.mono BR.out.size)⟩

end Go.Proofs.YtcljmmadimldlaaDoor
