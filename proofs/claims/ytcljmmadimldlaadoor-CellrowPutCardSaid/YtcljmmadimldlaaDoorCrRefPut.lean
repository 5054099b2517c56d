/-
  The document's own Put of layer 7.
-/
import Derived.Test.YtcljmmadimldlaaDoorCrRefs
namespace Go.Proofs.YtcljmmadimldlaaDoor
open Go.RowKit Go.Shelf Cr

set_option maxHeartbeats 4000000 in
set_option maxRecDepth 100000 in
theorem refput_any (A : Option Addr) (n c : Nat) (l : List C) (col : Int) (t : ByteArray) (f b g : Int) (w : World) (hr : Rd w A n l) (hmax : n ≤ 9223372036854775807) (ht : ∀ x ∈ l, x.t.size ≤ 300) (hs : t.size ≤ 300) :
    Calls Tryd.prog 22 #[.slice A n c, .int .i64 col, .string t, .agg #[.int .i64 f, .int .i64 b, .int .i64 g]] w fun e w' => ∃ A' n' c', e = .returned (.tuple #[.slice A' n' c', .int .i64 (putE l col t : Nat)]) ∧ GivesC w w' A' n' c' (putL l col t f b g) := by
  have hl : l.length = n := hr.1
  obtain ⟨W, hW⟩ : ∃ W, w.alloc (.cells #[.int .i64 f, .int .i64 b, .int .i64 g] 24) = W := ⟨_, rfl⟩
  have bW : Below w.heap.size w W := by rw [← hW]; exact (Below.refl _ _).alloc (Nat.le_refl _) _
  have hkA : W.heap[w.heap.size]? = some (.cells #[.int .i64 f, .int .i64 b, .int .i64 g] 24) := by rw [← hW]; exact heap_alloc_new w _
  have HKA := Lib.hid (fun W' (h : Below W.heap.size W W') => (h.block _ (Array.getElem?_eq_some_iff.1 hkA).1).trans hkA)
  have HR := Lib.hid hr
  have HW := Lib.hid bW
  have CC := Lib.hid (refCheckRow_any A n c l W (hr.below bW) hmax ht)
  obtain ⟨q, hq⟩ : ∃ q, check l = q := ⟨_, rfl⟩
  rw [hq] at CC
  have hbad : putE l col t ≠ 0 → putL l col t f b g = [] := fun h => by unfold putL; rw [if_pos h]
  clear hr bW hkA ht
  by_cases h0 : q = 0
  · subst h0
    have hP := check_zero.1 hq
    by_cases h1 : col < 0
    · have hc : colE l col = 2 := by unfold colE; rw [if_neg (by omega), if_pos (.inl h1)]
      have e2 : putE l col t = 2 := by unfold putE; rw [hc]; rfl
      rw [e2, hbad (by omega)]
      clear hc e2 hbad hq hP
      go_enter Tryd.func22, Tryd.ntmps22
      go_wp2_with fail
      refine (CC.out).mono ?_
      rintro e w1 ⟨rfl, b1⟩
      have B1 := Lib.hid (HW.out.trans (b1.mono HW.out.size))
      have BW1 := Lib.hid b1
      clear b1 CC
      go_wp2
      go_ret2
      exact ⟨_, _, _, rfl, gives_nil B1.out⟩
    · by_cases h2 : (n : Int) ≤ col
      · have hc : colE l col = 2 := by unfold colE; rw [if_neg (by omega), if_pos (.inr (by omega))]
        have e2 : putE l col t = 2 := by unfold putE; rw [hc]; rfl
        rw [e2, hbad (by omega)]
        clear hc e2 hbad hq hP
        go_enter Tryd.func22, Tryd.ntmps22
        go_wp2_with fail
        refine (CC.out).mono ?_
        rintro e w1 ⟨rfl, b1⟩
        have B1 := Lib.hid (HW.out.trans (b1.mono HW.out.size))
        have BW1 := Lib.hid b1
        clear b1 CC
        go_wp2
        go_ret2
        exact ⟨_, _, _, rfl, gives_nil B1.out⟩
      · have hc : colE l col = 0 := by unfold colE; rw [if_neg (by omega), if_neg (by omega)]
        obtain ⟨k, rfl⟩ : ∃ k : Nat, col = (k : Int) := ⟨col.toNat, by omega⟩
        obtain ⟨ab, ao, rfl⟩ := HR.out.addr (by omega)
        have CT := Lib.hid (fun W' => refcheck_any t W' hs)
        have CW := Lib.hid (fun W' => refwidth_cl t W' hs)
        obtain ⟨e0, he0⟩ : ∃ e0 : Nat, chk t = e0 := ⟨_, rfl⟩
        rw [show Cl.chk t.data.toList = e0 from he0] at CT
        by_cases hct : e0 = 0
        · subst hct
          obtain ⟨m, hm, hm2⟩ : ∃ m : Nat, wd t = (m : Int) ∧ (m = 1 ∨ m = 2) := by rcases wd_ok he0 with e | e; exact ⟨1, e, .inl rfl⟩; exact ⟨2, e, .inr rfl⟩
          rw [show Cl.widthC t.data.toList = (m : Int) from hm] at CW
          have hkm : (k : Int) + (m : Int) ≤ 134 := by omega
          by_cases hov : n < k + m
          · have hovz : (n : Int) < (k : Int) + (m : Int) := by omega
            have e2 : putE l (k : Int) t = 12 := by unfold putE; rw [hc, if_neg (by simp), if_neg (by omega), if_pos (by omega)]
            rw [e2, hbad (by omega)]
            clear hc e2 hbad hq hP he0 hm
            go_enter Tryd.func22, Tryd.ntmps22
            go_wp2_with fail
            refine (CC.out).mono ?_
            rintro e w1 ⟨rfl, b1⟩
            have B1 := Lib.hid (HW.out.trans (b1.mono HW.out.size))
            have BW1 := Lib.hid b1
            clear b1 CC
            go_wp2_with fail
            refine (CT.out w1).mono ?_
            rintro e w2 ⟨rfl, b2⟩
            have B2 := Lib.hid (B1.out.trans (b2.mono B1.out.size))
            have BW2 := Lib.hid (BW1.out.trans (b2.mono BW1.out.size))
            clear b2 CT
            go_wp2_with fail
            refine (CW.out w2).mono ?_
            rintro e w3 ⟨rfl, b3⟩
            have B3 := Lib.hid (B2.out.trans (b3.mono B2.out.size))
            have BW3 := Lib.hid (BW2.out.trans (b3.mono BW2.out.size))
            clear b3 CW
            go_wp2
            go_ret2
            exact ⟨_, _, _, rfl, gives_nil B3.out⟩
          · have hovz : ¬ (n : Int) < (k : Int) + (m : Int) := by omega
            have hg := put_good hP.2.2 hP.1 hP.2.1 k (m := m) he0 hm (by omega) (by omega) f b g
            rw [hg.1, hg.2]
            have CP := Lib.hid (fun W' (h : Rd W' (some ⟨ab, ao, none⟩) n l) => copied_any ab ao n c l (by omega) W' h)
            have P1 : Pr (sep l k) := sep_Pr hP.2.2 k (by omega)
            have P2 : Pr (sep (sep l k) (k + m)) := sep_Pr P1 (k + m) (by rw [sep_length]; omega)
            have CS1 := Lib.hid (fun (w0 : World) (g' cap : Nat) (W' : World) (h : Own w0 W' (.slice (some ⟨g', 0, none⟩) n cap) l) => refsep_any w0 g' n cap l hP.2.2 k (by omega) (by omega) W' h)
            have CS2 := Lib.hid (fun (w0 : World) (g' cap : Nat) (W' : World) (h : Own w0 W' (.slice (some ⟨g', 0, none⟩) n cap) (sep l k)) => refsep_any w0 g' n cap (sep l k) P1 (k + m) (by omega) (by omega) W' h)
            have hcast : ((k + m : Nat) : Int) = (k : Int) + (m : Int) := by omega
            rw [hcast] at CS2
            have CS3 := Lib.hid (fun (w0 : World) (g' cap : Nat) (W' : World) (h : Own w0 W' (.slice (some ⟨g', 0, none⟩) n cap) (sep (sep l k) (k + m))) => refsep_any w0 g' n cap (sep (sep l k) (k + m)) P2 (k + 1) (by omega) (by omega) W' h)
            have hcast1 : ((k + 1 : Nat) : Int) = (k : Int) + 1 := by omega
            rw [hcast1] at CS3
            have hk0 : (0 : Int) ≤ (k : Int) := by omega
            have hkn : (k : Int) < (n : Int) := by omega
            have hn132 : (n : Int) ≤ 132 := by omega
            have hl2 : (sep (sep l k) (k + m)).length = n := by rw [sep_length, sep_length, hl]
            have hl3 : (sep (sep (sep l k) (k + m)) (k + 1)).length = n := by rw [sep_length, hl2]
            rcases hm2 with rfl | rfl
            · have hfin : (sep (sep l k) (k + 1)).set k ⟨t, 1, f, b, g⟩ = repl l k (k + 1) (cells t f b g) := by
                rw [ref_put1 hP.2.2 (by omega)]
                congr 1
                unfold cells
                rw [if_neg (by omega), hm]
                rfl
              have HF := Lib.hid hfin
              have hy : ∃ y, (sep (sep l k) (k + 1))[k]? = some y := ⟨_, List.getElem?_eq_getElem (show k < (sep (sep l k) (k + 1)).length by omega)⟩
              obtain ⟨y, hy⟩ := hy
              have HY := Lib.hid hy
              have HL2 := Lib.hid hl2
              clear hc hg hbad hq he0 hm hfin hy hl2 hl3 CS3 hcast1 hcast
              go_enter Tryd.func22, Tryd.ntmps22
              go_wp2_with fail
              refine (CC.out).mono ?_
              rintro e w1 ⟨rfl, b1⟩
              have B1 := Lib.hid (HW.out.trans (b1.mono HW.out.size))
              have BW1 := Lib.hid b1
              clear b1 CC
              go_wp2_with fail
              refine (CT.out w1).mono ?_
              rintro e w2 ⟨rfl, b2⟩
              have B2 := Lib.hid (B1.out.trans (b2.mono B1.out.size))
              have BW2 := Lib.hid (BW1.out.trans (b2.mono BW1.out.size))
              clear b2 CT
              go_wp2_with fail
              refine (CW.out w2).mono ?_
              rintro e w3 ⟨rfl, b3⟩
              have B3 := Lib.hid (B2.out.trans (b3.mono B2.out.size))
              have BW3 := Lib.hid (BW2.out.trans (b3.mono BW2.out.size))
              clear b3 CW
              go_wp2_with fail
              refine (CP.out w3 (HR.out.below B3.out)).mono ?_
              rintro e w4 ⟨gq, cap, rfl, hO4⟩
              have O4 := Lib.hid hO4
              clear hO4 CP
              go_wp2_with fail
              refine (CS1.out w3 gq cap w4 O4.out).mono ?_
              rintro e w5 ⟨rfl, hO5⟩
              have O5 := Lib.hid hO5
              clear hO5 CS1 O4
              go_wp2_with fail
              refine (CS2.out w3 gq cap w5 O5.out).mono ?_
              rintro e w6 ⟨rfl, hO6⟩
              have O6 := Lib.hid hO6
              have BW6 := Lib.hid (BW3.out.trans (O6.out.2.mono BW3.out.size))
              clear hO6 CS2 O5
              obtain ⟨⟨s0, s1, s2, s3, s4⟩, sf⟩ := O6.out.here k y HY.out
              have O7 := Lib.hid (O6.out.put k ⟨t, 1, f, b, g⟩ (by rw [HL2.out]; omega))
              have q0 := cell_of_row w6 _ 0 _ _ _ (HKA.out w6 BW6.out)
              have q1 := cell_of_row w6 _ 1 _ _ _ (HKA.out w6 BW6.out)
              have q2 := cell_of_row w6 _ 2 _ _ _ (HKA.out w6 BW6.out)
              go_wp2
              go_ret2
              refine ⟨_, _, _, rfl, ?_⟩
              rw [← HF.out]
              exact O7.out.mine.gives.rebase B3.out
            · have hfin : ((sep (sep (sep l k) (k + 2)) (k + 1)).set (k + 1) ⟨⟨#[]⟩, 0, f, b, g⟩).set k ⟨t, 2, f, b, g⟩ = repl l k (k + 2) (cells t f b g) := by
                rw [ref_put2 hP.2.2 (by omega)]
                congr 1
                unfold cells
                rw [if_pos (show wd t = 2 from hm)]
              have HF := Lib.hid hfin
              obtain ⟨k1, hk1⟩ : ∃ k1, k + 1 = k1 := ⟨_, rfl⟩
              rw [hk1] at HF CS3 hl3
              obtain ⟨y, hy⟩ : ∃ y, (sep (sep (sep l k) (k + 2)) k1)[k1]? = some y := ⟨_, List.getElem?_eq_getElem (show k1 < (sep (sep (sep l k) (k + 2)) k1).length by omega)⟩
              obtain ⟨y2, hy2⟩ : ∃ y2, ((sep (sep (sep l k) (k + 2)) k1).set k1 ⟨⟨#[]⟩, 0, f, b, g⟩)[k]? = some y2 := ⟨_, List.getElem?_eq_getElem (show k < ((sep (sep (sep l k) (k + 2)) k1).set k1 ⟨⟨#[]⟩, 0, f, b, g⟩).length by rw [List.length_set]; omega)⟩
              have HY := Lib.hid hy
              have HY2 := Lib.hid hy2
              have HL3 := Lib.hid hl3
              have HK1 := Lib.hid hk1
              have hk1z : (k : Int) + 1 = (k1 : Int) := by omega
              have hk1n : (k1 : Int) < (n : Int) := by omega
              have hk10 : (0 : Int) ≤ (k1 : Int) := by omega
              rw [hk1z] at CS3
              clear hc hg hbad hq he0 hm hfin hy hy2 hl2 hl3 hcast1 hcast hk1
              go_enter Tryd.func22, Tryd.ntmps22
              go_wp2_with fail
              refine (CC.out).mono ?_
              rintro e w1 ⟨rfl, b1⟩
              have B1 := Lib.hid (HW.out.trans (b1.mono HW.out.size))
              have BW1 := Lib.hid b1
              clear b1 CC
              go_wp2_with fail
              refine (CT.out w1).mono ?_
              rintro e w2 ⟨rfl, b2⟩
              have B2 := Lib.hid (B1.out.trans (b2.mono B1.out.size))
              have BW2 := Lib.hid (BW1.out.trans (b2.mono BW1.out.size))
              clear b2 CT
              go_wp2_with fail
              refine (CW.out w2).mono ?_
              rintro e w3 ⟨rfl, b3⟩
              have B3 := Lib.hid (B2.out.trans (b3.mono B2.out.size))
              have BW3 := Lib.hid (BW2.out.trans (b3.mono BW2.out.size))
              clear b3 CW
              go_wp2_with fail
              refine (CP.out w3 (HR.out.below B3.out)).mono ?_
              rintro e w4 ⟨gq, cap, rfl, hO4⟩
              have O4 := Lib.hid hO4
              clear hO4 CP
              go_wp2_with fail
              refine (CS1.out w3 gq cap w4 O4.out).mono ?_
              rintro e w5 ⟨rfl, hO5⟩
              have O5 := Lib.hid hO5
              clear hO5 CS1 O4
              go_wp2_with fail
              refine (CS2.out w3 gq cap w5 O5.out).mono ?_
              rintro e w6 ⟨rfl, hO6⟩
              have O6 := Lib.hid hO6
              have BW6 := Lib.hid (BW3.out.trans (O6.out.2.mono BW3.out.size))
              clear hO6 CS2 O5
              go_wp2_with fail
              refine (CS3.out w3 gq cap w6 O6.out).mono ?_
              rintro e w7 ⟨rfl, hO7⟩
              have O7 := Lib.hid hO7
              have BW7 := Lib.hid (BW3.out.trans (O7.out.2.mono BW3.out.size))
              clear hO7 CS3 O6
              obtain ⟨⟨s0, s1, s2, s3, s4⟩, sf⟩ := O7.out.here k1 y HY.out
              have O8 := Lib.hid (O7.out.put k1 ⟨⟨#[]⟩, 0, f, b, g⟩ (by rw [HL3.out]; omega))
              have BW8 := Lib.hid (BW3.out.trans (O8.out.2.mono BW3.out.size))
              obtain ⟨⟨u0, u1, u2, u3, u4⟩, uf⟩ := O8.out.here k y2 HY2.out
              have O9 := Lib.hid (O8.out.put k ⟨t, 2, f, b, g⟩ (by rw [List.length_set, HL3.out]; omega))
              simp only at u0 u1 u2 u3 u4
              have q0 := cell_of_row w7 _ 0 _ _ _ (HKA.out w7 BW7.out)
              have q1 := cell_of_row w7 _ 1 _ _ _ (HKA.out w7 BW7.out)
              have q2 := cell_of_row w7 _ 2 _ _ _ (HKA.out w7 BW7.out)
              have v0 := cell_of_row _ _ 0 _ _ _ (HKA.out _ BW8.out)
              have v1 := cell_of_row _ _ 1 _ _ _ (HKA.out _ BW8.out)
              have v2 := cell_of_row _ _ 2 _ _ _ (HKA.out _ BW8.out)
              simp only at v0 v1 v2
              go_wp2
              go_ret2
              refine ⟨_, _, _, rfl, ?_⟩
              rw [← HF.out]
              exact O9.out.mine.gives.rebase B3.out
        · have hcb : (((e0 : Nat) : Int) != 0) = true := nat_ne hct
          have e2 : putE l (k : Int) t = 3 := by unfold putE; rw [hc, if_neg (by simp), if_pos (by omega)]
          rw [e2, hbad (by omega)]
          clear hc e2 hbad hq hP he0
          go_enter Tryd.func22, Tryd.ntmps22
          go_wp2_with fail
          refine (CC.out).mono ?_
          rintro e w1 ⟨rfl, b1⟩
          have B1 := Lib.hid (HW.out.trans (b1.mono HW.out.size))
          have BW1 := Lib.hid b1
          clear b1 CC
          go_wp2_with fail
          refine (CT.out w1).mono ?_
          rintro e w2 ⟨rfl, b2⟩
          have B2 := Lib.hid (B1.out.trans (b2.mono B1.out.size))
          clear b2 CT
          go_wp2
          go_ret2
          exact ⟨_, _, _, rfl, gives_nil B2.out⟩
  · have hqb : (((q : Nat) : Int) != 0) = true := nat_ne h0
    have hc : colE l col = 1 := by unfold colE; rw [if_pos (by omega)]
    have e2 : putE l col t = 1 := by unfold putE; rw [hc]; rfl
    rw [e2, hbad (by omega)]
    clear hc e2 hbad hq
    go_enter Tryd.func22, Tryd.ntmps22
    go_wp2_with fail
    refine (CC.out).mono ?_
    rintro e w1 ⟨rfl, b1⟩
    have B1 := Lib.hid (HW.out.trans (b1.mono HW.out.size))
    have BW1 := Lib.hid b1
    clear b1 CC
    go_wp2
    go_ret2
    exact ⟨_, _, _, rfl, gives_nil B1.out⟩

end Go.Proofs.YtcljmmadimldlaaDoor
