/-
  What areWithin, isCommand, isProper and Idle of vtparse return.
-/
import Derived.Test.YtihfjkjbeeoanaaDoorRead5
namespace Go.Proofs.YtihfjkjbeeoanaaDoor
open Go.RowKit

theorem within_take (lo hi : Nat) (l : List UInt8) (k : Nat) (hk : k < l.length) (h : Vt.within lo hi (l.take k) = true) (h1 : lo ≤ l[k].toNat) (h2 : l[k].toNat ≤ hi) : Vt.within lo hi (l.take (k + 1)) = true := by
  rw [List.take_succ_eq_append_getElem hk]
  exact Vt.within_snoc h h1 h2
theorem within_not (lo hi : Nat) (l : List UInt8) (k : Nat) (hk : k < l.length) (h : ¬ (lo ≤ l[k].toNat ∧ l[k].toNat ≤ hi)) : Vt.within lo hi l = false := by
  unfold Vt.within
  rw [List.all_eq_false]
  refine ⟨l[k], List.getElem_mem hk, ?_⟩
  simpa using h

set_option maxHeartbeats 400000 in
set_option maxRecDepth 100000 in
theorem areWithin_any (s : ByteArray) (lo hi : Nat) (w : World) (hs : s.size ≤ 1000) :
    Calls Tryd.prog 19 #[.string s, .int .u8 (lo : Int), .int .u8 (hi : Int)] w fun e w' => e = .returned (.bool (Vt.within lo hi s.data.toList)) ∧ w = w' := by
  obtain ⟨R, hR⟩ : ∃ R, Vt.within lo hi s.data.toList = R := ⟨_, rfl⟩
  rw [hR]
  have HR := Lib.hid hR
  clear hR
  go_enter Tryd.func19, Tryd.ntmps19
  go_wp2
  go_loopg [7, 10] (s.size + 1) (fun gk _ i wr => ∃ k : Nat, gk + k = s.size + 1 ∧ k ≤ s.size ∧ i = .int .i64 (k : Int) ∧ wr = w ∧ Aside (Vt.within lo hi (s.data.toList.take k) = true))
  case atStart => exact ⟨0, by omega, Nat.zero_le _, rfl, rfl, rfl⟩
  case round =>
    obtain ⟨k, hg, hks, rfl, rfl, hA⟩ := hrel
    have hsl := Lib.size_eq s
    by_cases hlt : k < s.size
    · obtain ⟨g', rfl⟩ : ∃ g', gk = g' + 1 := ⟨gk - 1, by omega⟩
      have hz : (k : Int) < (s.size : Int) := by omega
      have hz0 : (0 : Int) ≤ (k : Int) := by omega
      have hkl : k < s.data.toList.length := by omega
      obtain ⟨b, hb⟩ : ∃ b, s[k] = b := ⟨_, rfl⟩
      have HB : Hid (s.data.toList[k] = b) := Lib.hid hb
      have HL := Lib.hid hsl
      clear hsl
      by_cases h1 : b.toNat < lo
      · have h1z : (b.toNat : Int) < (lo : Int) := by omega
        go_wp2
        go_ret
        refine ⟨ret_bool ?_, rfl⟩
        rw [← HR.out, within_not lo hi _ k hkl]
        rw [HB.out]
        omega
      · have h1z : ¬ (b.toNat : Int) < (lo : Int) := by omega
        by_cases h2 : hi < b.toNat
        · have h2z : (hi : Int) < (b.toNat : Int) := by omega
          go_wp2
          go_ret
          refine ⟨ret_bool ?_, rfl⟩
          rw [← HR.out, within_not lo hi _ k hkl]
          rw [HB.out]
          omega
        · have h2z : ¬ (hi : Int) < (b.toNat : Int) := by omega
          go_wp2
          go_roundg g'
          case measure => omega
          case rel =>
            refine ⟨k + 1, by omega, by omega, by go_num, rfl, ?_⟩
            exact within_take lo hi _ k hkl hA.out (by rw [HB.out]; omega) (by rw [HB.out]; omega)
    · have hz : ¬ (k : Int) < (s.size : Int) := by omega
      have e : s.data.toList.take k = s.data.toList := List.take_of_length_le (by omega)
      rw [e] at hA
      clear e hsl
      go_wp2
      go_ret
      exact ⟨ret_bool (by rw [← HR.out, hA.out]), rfl⟩

set_option maxHeartbeats 400000 in
set_option maxRecDepth 100000 in
theorem isCommand_any (l : List UInt8) (w : World) (hl : l.length ≤ 1000) :
    Calls Tryd.prog 20 #[.string (ba l)] w fun e w' => e = .returned (.bool (decide (l.length ≤ 256) && Vt.within 32 255 l)) ∧ w = w' := by
  have hbs : (ba l).size = l.length := ba_size l
  have cW := areWithin_any (ba l) 32 255 w (by omega)
  rw [ba_list] at cW
  have CW := Lib.hid cW
  clear cW
  by_cases h : l.length ≤ 256
  · have hz : ((ba l).size : Int) ≤ 256 := by omega
    have hd : decide (l.length ≤ 256) = true := by simpa using h
    rw [hd, Bool.true_and]
    clear hbs
    go_enter Tryd.func20, Tryd.ntmps20
    go_wp2_with fail
    refine CW.out.mono ?_
    rintro e w' ⟨rfl, rfl⟩
    go_wp2
    go_ret
    exact ⟨rfl, rfl⟩
  · have hz : ¬ ((ba l).size : Int) ≤ 256 := by omega
    have hd : decide (l.length ≤ 256) = false := by simpa using h
    rw [hd, Bool.false_and]
    clear hbs
    go_enter Tryd.func20, Tryd.ntmps20
    go_wp2
    go_ret
    exact ⟨rfl, rfl⟩

theorem isEmpty_ba (l : List UInt8) : (ba l).toList.isEmpty = l.isEmpty := by rw [Lib.toList_data, ba_list]
theorem beq_ba (a b : List UInt8) : ((ba a).toList == (ba b).toList) = decide (a = b) := by
  rw [Lib.toList_data, Lib.toList_data, ba_list, ba_list]
  by_cases h : a = b
  · simp [h]
  · rw [decide_eq_false h]
    simpa using h

set_option maxHeartbeats 2000000 in
set_option maxRecDepth 100000 in
theorem isProper_any (p : Vt.P) (w : World) (hpl : p.pe.length ≤ 900) (hbl : p.bu.length ≤ 1000) (hT : Lib.Utf8Tabs 0 1 w) :
    Calls Tryd.prog 11 #[.agg #[.int .i64 p.st, .string (ba p.pe), .string (ba p.bu)]] w fun e w' => e = .returned (.bool (Vt.proper p)) ∧ Below w.heap.size w w' := by
  obtain ⟨st, pe, bu⟩ := p
  have hbs : (ba bu).size = bu.length := ba_size bu
  have hps : (ba pe).size = pe.length := ba_size pe
  simp only at hpl hbl
  have he1 := isEmpty_ba bu
  have he2 := isEmpty_ba pe
  by_cases h0 : st = 0
  · subst h0
    have hb1 : Below w.heap.size w (w.alloc (.cells #[.int .i64 0, .string (ba pe), .string (ba bu)] 23)) := (Below.refl _ _).alloc (Nat.le_refl _) _
    have cD := decode_gives_fresh (ba pe) (w.alloc (.cells #[.int .i64 0, .string (ba pe), .string (ba bu)] 23)) (by omega) (Utf8Tabs_below hT hb1)
    rw [ba_list] at cD
    have HB := Lib.hid hb1
    have HK := Lib.hid (Pk.laid w ⟨0, pe, bu⟩)
    unfold Vt.proper
    rw [if_pos rfl]
    simp only
    obtain ⟨R, hR⟩ : ∃ R, (bu.isEmpty && ((U8.run pe).1.isEmpty && decide ((U8.run pe).2 = pe))) = R := ⟨_, rfl⟩
    rw [hR]
    have HR := Lib.hid hR
    generalize U8.run pe = r at cD HR
    obtain ⟨o, k⟩ := r
    have CD := Lib.hid cD
    clear cD hb1 hR
    go_enter Tryd.func11, Tryd.ntmps11
    go_wp2_with fail
    refine CD.out.mono ?_
    rintro e w1 ⟨A1, n1, c1, t, rfl, ht, g1⟩
    obtain rfl : t = ba k := by rw [← ht, ba_of]
    have HB1 := Lib.hid (HB.out.trans (g1.2.2.mono HB.out.size))
    have hk1 := HK.out.below g1.2.2
    have z0 := hk1.c0
    have z1 := hk1.c1
    have z2 := hk1.c2
    have hn : n1 = o.length := g1.length
    have hbq := beq_ba k pe
    have hr := HR.out
    clear g1 CD ht hk1 HK hbs hps
    cases hq1 : bu.isEmpty
    · rw [hq1] at he1 hr
      go_wp2
      go_ret
      exact ⟨ret_bool hr, HB1.out⟩
    · rw [hq1] at he1 hr
      cases ho : o.isEmpty
      · have hnz : ((n1 : Int) == 0) = false := by
          cases o with
          | nil => cases ho
          | cons a l => simp at hn; simp; omega
        rw [ho] at hr
        clear hn
        go_wp2
        go_ret
        exact ⟨ret_bool hr, HB1.out⟩
      · have hnz : ((n1 : Int) == 0) = true := by
          rw [List.isEmpty_iff] at ho
          rw [hn, ho]
          rfl
        rw [ho] at hr
        clear hn
        generalize hd : decide (k = pe) = q at hbq hr
        clear hd
        cases q
        · go_wp2
          go_ret
          exact ⟨ret_bool hr, HB1.out⟩
        · go_wp2
          go_ret
          exact ⟨ret_bool hr, HB1.out⟩
  · have h0z : (st == 0) = false := by simpa using h0
    cases hpe : pe.isEmpty
    · rw [hpe] at he2
      have e : Vt.proper ⟨st, pe, bu⟩ = false := by
        unfold Vt.proper
        rw [if_neg h0, hpe]
        rfl
      rw [e]
      clear hbs hps e
      go_enter Tryd.func11, Tryd.ntmps11
      go_wp2
      go_ret
      exact ⟨rfl, (Below.refl _ _).alloc (Nat.le_refl _) _⟩
    · rw [hpe] at he2
      have hpe' : (pe.isEmpty && Vt.within 32 47 bu) = Vt.within 32 47 bu ∧ (pe.isEmpty && Vt.within 32 63 bu) = Vt.within 32 63 bu := by rw [hpe]; exact ⟨rfl, rfl⟩
      by_cases h1 : st = 1
      · subst h1
        have hpe' := hpe'.1
        have e := Vt.proper_1 (p := ⟨1, pe, bu⟩) rfl
        rw [e]
        have cW := fun W => areWithin_any (ba bu) 32 47 W (by omega)
        rw [ba_list] at cW
        have CW := Lib.hid cW
        clear e cW
        by_cases h5 : bu.length ≤ 3
        · have h5z : ((ba bu).size : Int) ≤ 3 := by omega
          have h5d : decide (bu.length ≤ 3) = true := by simpa using h5
          rw [h5d, Bool.true_and, hpe']
          clear hbs
          go_enter Tryd.func11, Tryd.ntmps11
          go_wp2_with fail
          refine (CW.out _).mono ?_
          rintro e w' ⟨rfl, rfl⟩
          go_wp2
          go_ret
          exact ⟨rfl, (Below.refl _ _).alloc (Nat.le_refl _) _⟩
        · have h5z : ¬ ((ba bu).size : Int) ≤ 3 := by omega
          have h5d : decide (bu.length ≤ 3) = false := by simpa using h5
          rw [h5d, Bool.false_and, Bool.and_false]
          clear hbs
          go_enter Tryd.func11, Tryd.ntmps11
          go_wp2
          go_ret
          exact ⟨rfl, (Below.refl _ _).alloc (Nat.le_refl _) _⟩
      · have h1z : (st == 1) = false := by simpa using h1
        by_cases h2 : st = 2
        · subst h2
          have hpe' := hpe'.2
          have e := Vt.proper_2 (p := ⟨2, pe, bu⟩) rfl
          rw [e]
          have cW := fun W => areWithin_any (ba bu) 32 63 W (by omega)
          rw [ba_list] at cW
          have CW := Lib.hid cW
          clear e cW
          by_cases h5 : bu.length ≤ 257
          · have h5z : ((ba bu).size : Int) ≤ 257 := by omega
            have h5d : decide (bu.length ≤ 257) = true := by simpa using h5
            rw [h5d, Bool.true_and, hpe']
            clear hbs
            go_enter Tryd.func11, Tryd.ntmps11
            go_wp2_with fail
            refine (CW.out _).mono ?_
            rintro e w' ⟨rfl, rfl⟩
            go_wp2
            go_ret
            exact ⟨rfl, (Below.refl _ _).alloc (Nat.le_refl _) _⟩
          · have h5z : ¬ ((ba bu).size : Int) ≤ 257 := by omega
            have h5d : decide (bu.length ≤ 257) = false := by simpa using h5
            rw [h5d, Bool.false_and, Bool.and_false]
            clear hbs
            go_enter Tryd.func11, Tryd.ntmps11
            go_wp2
            go_ret
            exact ⟨rfl, (Below.refl _ _).alloc (Nat.le_refl _) _⟩
        · have h2z : (st == 2) = false := by simpa using h2
          have CC := Lib.hid (fun W => isCommand_any bu W hbl)
          by_cases h3 : st = 3
          · subst h3
            rw [Vt.proper_34 (p := ⟨3, pe, bu⟩) (.inl rfl)]
            simp only [hpe, Bool.true_and]
            clear hbs hps
            go_enter Tryd.func11, Tryd.ntmps11
            go_wp2_with fail
            refine (CC.out _).mono ?_
            rintro e w' ⟨rfl, rfl⟩
            go_wp2
            go_ret
            exact ⟨rfl, (Below.refl _ _).alloc (Nat.le_refl _) _⟩
          · have h3z : (st == 3) = false := by simpa using h3
            by_cases h4 : st = 4
            · subst h4
              rw [Vt.proper_34 (p := ⟨4, pe, bu⟩) (.inr rfl)]
              simp only [hpe, Bool.true_and]
              clear hbs hps
              go_enter Tryd.func11, Tryd.ntmps11
              go_wp2_with fail
              refine (CC.out _).mono ?_
              rintro e w' ⟨rfl, rfl⟩
              go_wp2
              go_ret
              exact ⟨rfl, (Below.refl _ _).alloc (Nat.le_refl _) _⟩
            · have h4z : (st == 4) = false := by simpa using h4
              have e : Vt.proper ⟨st, pe, bu⟩ = false := by
                cases hh : Vt.proper ⟨st, pe, bu⟩
                · rfl
                · have := Vt.proper_st hh
                  simp only at this
                  omega
              rw [e]
              clear hbs hps e CC
              go_enter Tryd.func11, Tryd.ntmps11
              go_wp2
              go_ret
              exact ⟨rfl, (Below.refl _ _).alloc (Nat.le_refl _) _⟩

end Go.Proofs.YtihfjkjbeeoanaaDoor
