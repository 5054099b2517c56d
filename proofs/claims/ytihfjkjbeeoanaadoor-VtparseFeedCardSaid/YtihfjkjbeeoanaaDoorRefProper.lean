/-
  What Proper and Idle of the document's own answers return, and Idle of vtparse.
-/
import Derived.Test.YtihfjkjbeeoanaaDoorRefC
import Derived.Test.YtihfjkjbeeoanaaDoorRefA
namespace Go.Proofs.YtihfjkjbeeoanaaDoor
open Go.RowKit

set_option maxHeartbeats 1000000 in
set_option maxRecDepth 100000 in
theorem refproper_any (p : Vt.P) (w : World) (hpl : p.pe.length ≤ 400) (hbl : p.bu.length ≤ 400) :
    Calls Tryd.prog 13 #[.agg #[.int .i64 p.st, .string (ba p.pe), .string (ba p.bu)]] w fun e w' => e = .returned (.bool (Vt.proper p)) ∧ Below w.heap.size w w' := by
  obtain ⟨st, pe, bu⟩ := p
  have hbs : (ba bu).size = bu.length := ba_size bu
  have hps : (ba pe).size = pe.length := ba_size pe
  simp only at hpl hbl
  have he1 := isEmpty_ba bu
  have he2 := isEmpty_ba pe
  by_cases h0 : st = 0
  · subst h0
    by_cases h3 : 3 < pe.length
    · have z3 : (3 : Int) < ((ba pe).size : Int) := by omega
      have e : Vt.proper ⟨0, pe, bu⟩ = false := by
        cases hp : Vt.proper ⟨0, pe, bu⟩
        · rfl
        · have := U8.opened_length (Vt.proper_pending hp rfl).1
          simp only at this
          omega
      rw [e]
      clear hbs hps e
      go_enter Tryd.func13, Tryd.ntmps13
      go_wp2
      go_ret
      exact ⟨rfl, (Below.refl _ _).alloc (Nat.le_refl _) _⟩
    · have z3 : ¬ (3 : Int) < ((ba pe).size : Int) := by omega
      have hb1 : Below w.heap.size w (w.alloc (.cells #[.int .i64 0, .string (ba pe), .string (ba bu)] 23)) := (Below.refl _ _).alloc (Nat.le_refl _) _
      have cD := refdecode_fresh (ba pe) (w.alloc (.cells #[.int .i64 0, .string (ba pe), .string (ba bu)] 23)) (by omega)
      rw [ba_list] at cD
      have HB := Lib.hid hb1
      have HK := Lib.hid (Pk.laid w ⟨0, pe, bu⟩)
      unfold Vt.proper
      rw [if_pos rfl]
      simp only
      obtain ⟨R, hR⟩ : ∃ R, (bu.isEmpty && ((U8.run pe).1.isEmpty && decide ((U8.run pe).2 = pe))) = R := ⟨_, rfl⟩
      rw [hR]
      have HR := Lib.hid hR
      generalize U8.run pe = r at cD HR
      obtain ⟨o, k⟩ := r
      have CD := Lib.hid cD
      clear cD hb1 hR
      go_enter Tryd.func13, Tryd.ntmps13
      go_wp2_with fail
      refine CD.out.mono ?_
      rintro e w1 ⟨A1, n1, c1, he, g1⟩
      have he : e = .returned (.tuple #[.slice A1 n1 c1, .string (ba k)]) := he
      subst he
      have HB1 := Lib.hid (HB.out.trans (g1.2.mono HB.out.size))
      have hk1 := HK.out.below g1.2
      have z0 := hk1.c0
      have z1 := hk1.c1
      have z2 := hk1.c2
      have hn : n1 = o.length := g1.nums.1
      have hbq := beq_ba k pe
      have hr := HR.out
      clear g1 CD hk1 HK hbs hps
      cases hq1 : bu.isEmpty
      · rw [hq1] at he1 hr
        go_wp2
        go_ret
        exact ⟨ret_bool hr, HB1.out⟩
      · rw [hq1] at he1 hr
        cases ho : o.isEmpty
        · have hnz : ((n1 : Int) == 0) = false := by
            cases o with
            | nil => cases ho
            | cons a l => simp at hn; simp; omega
          rw [ho] at hr
          clear hn
          go_wp2
          go_ret
          exact ⟨ret_bool hr, HB1.out⟩
        · have hnz : ((n1 : Int) == 0) = true := by
            rw [List.isEmpty_iff] at ho
            rw [hn, ho]
            rfl
          rw [ho] at hr
          clear hn
          generalize hd : decide (k = pe) = q at hbq hr
          clear hd
          cases q
          · go_wp2
            go_ret
            exact ⟨ret_bool hr, HB1.out⟩
          · go_wp2
            go_ret
            exact ⟨ret_bool hr, HB1.out⟩
  · have h0z : (st == 0) = false := by simpa using h0
    by_cases h1 : st = 1
    · subst h1
      have hP := Vt.proper_1 (p := ⟨1, pe, bu⟩) rfl
      simp only at hP
      cases hpe : pe.isEmpty
      · rw [hpe] at he2 hP
        rw [hP, Bool.false_and]
        clear hP hbs hps
        go_enter Tryd.func13, Tryd.ntmps13
        go_wp2
        go_ret
        exact ⟨rfl, (Below.refl _ _).alloc (Nat.le_refl _) _⟩
      · rw [hpe] at he2 hP
        rw [Bool.true_and] at hP
        rw [hP]
        have cA := fun W => all_any (ba bu) 3 32 47 W (by omega)
        rw [ba_list, hbs] at cA
        have CA := Lib.hid cA
        clear cA hP hbs hps
        go_enter Tryd.func13, Tryd.ntmps13
        go_wp2_with fail
        refine (CA.out _).mono ?_
        rintro e w' ⟨rfl, rfl⟩
        go_wp2
        go_ret
        exact ⟨rfl, (Below.refl _ _).alloc (Nat.le_refl _) _⟩
    · have h1z : (st == 1) = false := by simpa using h1
      by_cases h2 : st = 2
      · subst h2
        have hP := Vt.proper_2 (p := ⟨2, pe, bu⟩) rfl
        simp only at hP
        cases hpe : pe.isEmpty
        · rw [hpe] at he2 hP
          rw [hP, Bool.false_and]
          clear hP hbs hps
          go_enter Tryd.func13, Tryd.ntmps13
          go_wp2
          go_ret
          exact ⟨rfl, (Below.refl _ _).alloc (Nat.le_refl _) _⟩
        · rw [hpe] at he2 hP
          rw [Bool.true_and] at hP
          rw [hP]
          have cA := fun W => all_any (ba bu) 257 32 63 W (by omega)
          rw [ba_list, hbs] at cA
          have CA := Lib.hid cA
          clear cA hP hbs hps
          go_enter Tryd.func13, Tryd.ntmps13
          go_wp2_with fail
          refine (CA.out _).mono ?_
          rintro e w' ⟨rfl, rfl⟩
          go_wp2
          go_ret
          exact ⟨rfl, (Below.refl _ _).alloc (Nat.le_refl _) _⟩
      · have h2z : (st == 2) = false := by simpa using h2
        by_cases h3 : st = 3
        · subst h3
          have hP := Vt.proper_34 (p := ⟨3, pe, bu⟩) (.inl rfl)
          simp only at hP
          cases hpe : pe.isEmpty
          · rw [hpe] at he2 hP
            rw [hP, Bool.false_and]
            clear hP hbs hps
            go_enter Tryd.func13, Tryd.ntmps13
            go_wp2
            go_ret
            exact ⟨rfl, (Below.refl _ _).alloc (Nat.le_refl _) _⟩
          · rw [hpe] at he2 hP
            rw [Bool.true_and] at hP
            rw [hP]
            have cA := fun W => all_any (ba bu) 256 32 255 W (by omega)
            rw [ba_list, hbs] at cA
            have CA := Lib.hid cA
            clear cA hP hbs hps
            go_enter Tryd.func13, Tryd.ntmps13
            go_wp2_with fail
            refine (CA.out _).mono ?_
            rintro e w' ⟨rfl, rfl⟩
            go_wp2
            go_ret
            exact ⟨rfl, (Below.refl _ _).alloc (Nat.le_refl _) _⟩
        · have h3z : (st == 3) = false := by simpa using h3
          by_cases h4 : st = 4
          · subst h4
            have hP := Vt.proper_34 (p := ⟨4, pe, bu⟩) (.inr rfl)
            simp only at hP
            cases hpe : pe.isEmpty
            · rw [hpe] at he2 hP
              rw [hP, Bool.false_and]
              clear hP hbs hps
              go_enter Tryd.func13, Tryd.ntmps13
              go_wp2
              go_ret
              exact ⟨rfl, (Below.refl _ _).alloc (Nat.le_refl _) _⟩
            · rw [hpe] at he2 hP
              rw [Bool.true_and] at hP
              rw [hP]
              have cA := fun W => all_any (ba bu) 256 32 255 W (by omega)
              rw [ba_list, hbs] at cA
              have CA := Lib.hid cA
              clear cA hP hbs hps
              go_enter Tryd.func13, Tryd.ntmps13
              go_wp2_with fail
              refine (CA.out _).mono ?_
              rintro e w' ⟨rfl, rfl⟩
              go_wp2
              go_ret
              exact ⟨rfl, (Below.refl _ _).alloc (Nat.le_refl _) _⟩
          · have h4z : (st == 4) = false := by simpa using h4
            have e : Vt.proper ⟨st, pe, bu⟩ = false := by
              cases hp : Vt.proper ⟨st, pe, bu⟩
              · rfl
              · have := Vt.proper_st hp
                simp only at this
                omega
            rw [e]
            clear hbs hps e
            go_enter Tryd.func13, Tryd.ntmps13
            go_wp2
            go_ret
            exact ⟨rfl, (Below.refl _ _).alloc (Nat.le_refl _) _⟩

set_option maxHeartbeats 1000000 in
set_option maxRecDepth 100000 in
theorem idle_any (p : Vt.P) (w : World) (hpl : p.pe.length ≤ 400) (hbl : p.bu.length ≤ 400) (hT : Lib.Utf8Tabs 0 1 w) :
    Calls Tryd.prog 9 #[.agg #[.int .i64 p.st, .string (ba p.pe), .string (ba p.bu)]] w fun e w' => e = .returned (.bool (Vt.idle p)) ∧ Below w.heap.size w w' := by
  have hb : Below w.heap.size w (w.alloc (.cells #[.int .i64 p.st, .string (ba p.pe), .string (ba p.bu)] 23)) := (Below.refl _ _).alloc (Nat.le_refl _) _
  have cP := isProper_any p _ (by omega) (by omega) (Utf8Tabs_below hT hb)
  have HB := Lib.hid hb
  have HK := Lib.hid (Pk.laid w p)
  unfold Vt.idle
  by_cases hz : p = Vt.zero
  · subst hz
    rw [decide_eq_true rfl, Bool.true_or]
    rw [Vt.proper_zero] at cP
    have CP := Lib.hid cP
    clear cP hb hpl hbl
    exact idle_zero w
  · rw [decide_eq_false hz, Bool.false_or]
    generalize Vt.proper p = Q at cP ⊢
    have CP := Lib.hid cP
    clear cP hb hpl hbl
    obtain ⟨st, pe, bu⟩ := p
    simp only at CP HB HK ⊢
    have he1 := isEmpty_ba bu
    have he2 := isEmpty_ba pe
    by_cases h0 : st = 0
    · subst h0
      cases hpe : pe.isEmpty
      · rw [hpe] at he2
        clear hz
        go_enter Tryd.func9, Tryd.ntmps9
        go_wp2_with fail
        refine CP.out.mono ?_
        rintro e w1 ⟨rfl, b1⟩
        have HB1 := Lib.hid (HB.out.trans (b1.mono HB.out.size))
        clear b1 CP
        cases Q
        · go_wp2
          go_ret
          exact ⟨rfl, HB1.out⟩
        · go_wp2
          go_ret
          exact ⟨rfl, HB1.out⟩
      · rw [hpe] at he2
        cases hbe : bu.isEmpty
        · rw [hbe] at he1
          clear hz
          go_enter Tryd.func9, Tryd.ntmps9
          go_wp2_with fail
          refine CP.out.mono ?_
          rintro e w1 ⟨rfl, b1⟩
          have HB1 := Lib.hid (HB.out.trans (b1.mono HB.out.size))
          clear b1 CP
          cases Q
          · go_wp2
            go_ret
            exact ⟨rfl, HB1.out⟩
          · go_wp2
            go_ret
            exact ⟨rfl, HB1.out⟩
        · rw [List.isEmpty_iff] at hpe hbe
          exact absurd (by rw [hpe, hbe]; rfl) hz
    · have h0z : (st == 0) = false := by simpa using h0
      clear hz
      go_enter Tryd.func9, Tryd.ntmps9
      go_wp2_with fail
      refine CP.out.mono ?_
      rintro e w1 ⟨rfl, b1⟩
      have HB1 := Lib.hid (HB.out.trans (b1.mono HB.out.size))
      clear b1 CP
      cases Q
      · go_wp2
        go_ret
        exact ⟨rfl, HB1.out⟩
      · go_wp2
        go_ret
        exact ⟨rfl, HB1.out⟩

set_option maxHeartbeats 1000000 in
set_option maxRecDepth 100000 in
theorem refidle_any (p : Vt.P) (w : World) (hpl : p.pe.length ≤ 400) (hbl : p.bu.length ≤ 400) :
    Calls Tryd.prog 10 #[.agg #[.int .i64 p.st, .string (ba p.pe), .string (ba p.bu)]] w fun e w' => e = .returned (.bool (Vt.idle p)) ∧ Below w.heap.size w w' := by
  have hb : Below w.heap.size w (w.alloc (.cells #[.int .i64 p.st, .string (ba p.pe), .string (ba p.bu)] 23)) := (Below.refl _ _).alloc (Nat.le_refl _) _
  have cP := refproper_any p (w.alloc (.cells #[.int .i64 p.st, .string (ba p.pe), .string (ba p.bu)] 23)) hpl hbl
  have HB := Lib.hid hb
  have HK := Lib.hid (Pk.laid w p)
  unfold Vt.idle
  by_cases hz : p = Vt.zero
  · subst hz
    rw [decide_eq_true rfl, Bool.true_or]
    rw [Vt.proper_zero] at cP
    have CP := Lib.hid cP
    clear cP hb hpl hbl
    show Calls Tryd.prog 10 #[.agg #[.int .i64 0, .string ⟨#[]⟩, .string ⟨#[]⟩]] w _
    go_enter Tryd.func10, Tryd.ntmps10
    go_wp2_with fail
    refine CP.out.mono ?_
    rintro e w1 ⟨rfl, b1⟩
    have HB1 := Lib.hid (HB.out.trans (b1.mono HB.out.size))
    have z0 : w1.cell? ⟨w.heap.size, 0, none⟩ = some (.int .i64 0) := (HK.out.below b1).c0
    have z1 : w1.cell? ⟨w.heap.size, 1, none⟩ = some (.string ⟨#[]⟩) := (HK.out.below b1).c1
    have z2 : w1.cell? ⟨w.heap.size, 2, none⟩ = some (.string ⟨#[]⟩) := (HK.out.below b1).c2
    clear b1 CP
    go_wp2
    go_ret
    exact ⟨rfl, HB1.out⟩
  · rw [decide_eq_false hz, Bool.false_or]
    generalize Vt.proper p = Q at cP ⊢
    have CP := Lib.hid cP
    clear cP hb hpl hbl
    obtain ⟨st, pe, bu⟩ := p
    simp only at CP HB HK ⊢
    have he1 := isEmpty_ba bu
    have he2 := isEmpty_ba pe
    by_cases h0 : st = 0
    · subst h0
      cases hpe : pe.isEmpty
      · rw [hpe] at he2
        clear hz
        go_enter Tryd.func10, Tryd.ntmps10
        go_wp2_with fail
        refine CP.out.mono ?_
        rintro e w1 ⟨rfl, b1⟩
        have HB1 := Lib.hid (HB.out.trans (b1.mono HB.out.size))
        have z0 := (HK.out.below b1).c0
        have z1 := (HK.out.below b1).c1
        have z2 := (HK.out.below b1).c2
        clear b1 CP
        cases Q
        · go_wp2
          go_ret
          exact ⟨rfl, HB1.out⟩
        · go_wp2
          go_ret
          exact ⟨rfl, HB1.out⟩
      · rw [hpe] at he2
        cases hbe : bu.isEmpty
        · rw [hbe] at he1
          clear hz
          go_enter Tryd.func10, Tryd.ntmps10
          go_wp2_with fail
          refine CP.out.mono ?_
          rintro e w1 ⟨rfl, b1⟩
          have HB1 := Lib.hid (HB.out.trans (b1.mono HB.out.size))
          have z0 := (HK.out.below b1).c0
          have z1 := (HK.out.below b1).c1
          have z2 := (HK.out.below b1).c2
          clear b1 CP
          cases Q
          · go_wp2
            go_ret
            exact ⟨rfl, HB1.out⟩
          · go_wp2
            go_ret
            exact ⟨rfl, HB1.out⟩
        · rw [List.isEmpty_iff] at hpe hbe
          exact absurd (by rw [hpe, hbe]; rfl) hz
    · have h0z : (st == 0) = false := by simpa using h0
      clear hz
      go_enter Tryd.func10, Tryd.ntmps10
      go_wp2_with fail
      refine CP.out.mono ?_
      rintro e w1 ⟨rfl, b1⟩
      have HB1 := Lib.hid (HB.out.trans (b1.mono HB.out.size))
      have z0 := (HK.out.below b1).c0
      have z1 := (HK.out.below b1).c1
      have z2 := (HK.out.below b1).c2
      clear b1 CP
      cases Q
      · go_wp2
        go_ret
        exact ⟨rfl, HB1.out⟩
      · go_wp2
        go_ret
        exact ⟨rfl, HB1.out⟩

end Go.Proofs.YtihfjkjbeeoanaaDoor
