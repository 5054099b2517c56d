/-
  The document's own Insert of layer 7.
-/
import Derived.Test.YtcljmmadimldlaaDoorCrRefDel
namespace Go.Proofs.YtcljmmadimldlaaDoor
open Go.RowKit Go.Shelf Cr

theorem own_addr {w0 w : World} {A : Option Addr} {n c : Nat} {l : List C} (h : Own w0 w (.slice A n c) l) (h0 : 0 < n) : ∃ b, A = some ⟨b, 0, none⟩ := by
  rcases h.slice with ⟨e, _⟩ | ⟨g, cap, e, _⟩
  · injection e with _ e2 _
    omega
  · injection e with e1
    exact ⟨g, e1⟩

set_option maxHeartbeats 4000000 in
set_option maxRecDepth 100000 in
theorem refinsert_any (A : Option Addr) (n c : Nat) (l : List C) (col x : Int) (f b g : Int) (w : World) (hr : Rd w A n l) (hmax : n ≤ 9223372036854775807) (ht : ∀ x ∈ l, x.t.size ≤ 300) :
    Calls Tryd.prog 24 #[.slice A n c, .int .i64 col, .int .i64 x, .agg #[.int .i64 f, .int .i64 b, .int .i64 g]] w fun e w' => ∃ A' n' c', e = .returned (.tuple #[.slice A' n' c', .int .i64 (colE l col : Nat)]) ∧ GivesC w w' A' n' c' (insL l col x b) := by
  have hl : l.length = n := hr.1
  obtain ⟨W, hW⟩ : ∃ W, w.alloc (.cells #[.int .i64 f, .int .i64 b, .int .i64 g] 24) = W := ⟨_, rfl⟩
  have bW : Below w.heap.size w W := by rw [← hW]; exact (Below.refl _ _).alloc (Nat.le_refl _) _
  have hkA : W.heap[w.heap.size]? = some (.cells #[.int .i64 f, .int .i64 b, .int .i64 g] 24) := by rw [← hW]; exact heap_alloc_new w _
  have HKA := Lib.hid (fun W' (h : Below W.heap.size W W') => (h.block _ (Array.getElem?_eq_some_iff.1 hkA).1).trans hkA)
  have HR := Lib.hid hr
  have HW := Lib.hid bW
  have CC := Lib.hid (refCheckRow_any A n c l W (hr.below bW) hmax ht)
  obtain ⟨q, hq⟩ : ∃ q, check l = q := ⟨_, rfl⟩
  rw [hq] at CC
  have hbad : colE l col ≠ 0 → insL l col x b = [] := fun h => by unfold insL; rw [if_pos h]
  clear hr bW hkA ht
  by_cases h0 : q = 0
  · subst h0
    have hP := check_zero.1 hq
    by_cases h1 : col < 0 ∨ (n : Int) ≤ col
    · have hc : colE l col = 2 := by unfold colE; rw [if_neg (by omega), if_pos (by omega)]
      rw [hbad (by omega), hc]
      have hor : col < 0 ∨ (¬ col < 0 ∧ (n : Int) ≤ col) := by omega
      clear hc hbad hq hP h1
      rcases hor with ha | ⟨ha, hb⟩
      all_goals
        go_enter Tryd.func24, Tryd.ntmps24
        go_wp2_with fail
        refine (CC.out).mono ?_
        rintro e w1 ⟨rfl, b1⟩
        have B1 := Lib.hid (HW.out.trans (b1.mono HW.out.size))
        have BW1 := Lib.hid b1
        clear b1 CC
        go_wp2
        go_ret2
        exact ⟨_, _, _, rfl, gives_nil B1.out⟩
    · have hc : colE l col = 0 := by unfold colE; rw [if_neg (by omega), if_neg (by omega)]
      obtain ⟨k, rfl⟩ : ∃ k : Nat, col = (k : Int) := ⟨col.toNat, by omega⟩
      obtain ⟨ab, ao, rfl⟩ := HR.out.addr (by omega)
      have CP := Lib.hid (fun W' (h : Rd W' (some ⟨ab, ao, none⟩) n l) => copied_any ab ao n c l (by omega) W' h)
      have hk0 : (0 : Int) ≤ (k : Int) := by omega
      have hk0' : ¬ (k : Int) < 0 := by omega
      have hkn : (k : Int) < (n : Int) := by omega
      have hkn' : ¬ (n : Int) ≤ (k : Int) := by omega
      have hn132 : (n : Int) ≤ 132 := by omega
      by_cases h2 : x < 1
      · have L2 : insL l (k : Int) x b = l := by unfold insL; rw [if_neg (by omega), if_pos h2]
        rw [hc, L2]
        clear hc hbad hq hP h1 L2
        go_enter Tryd.func24, Tryd.ntmps24
        go_wp2_with fail
        refine (CC.out).mono ?_
        rintro e w1 ⟨rfl, b1⟩
        have B1 := Lib.hid (HW.out.trans (b1.mono HW.out.size))
        have BW1 := Lib.hid b1
        clear b1 CC
        go_wp2_with fail
        refine (CP.out w1 (HR.out.below B1.out)).mono ?_
        rintro e w2 ⟨g2, cap, rfl, hO⟩
        have O2 := Lib.hid hO
        clear hO CP
        go_wp2
        go_ret2
        exact ⟨_, _, _, rfl, O2.out.mine.gives.rebase B1.out⟩
      · obtain ⟨m, hm⟩ : ∃ m, min x.toNat (n - k) = m := ⟨_, rfl⟩
        have hmin : min x ((n : Int) - (k : Int)) = (m : Int) := by omega
        have hm1 : 1 ≤ m ∧ k + m ≤ n := by omega
        have L2 : insL l (k : Int) x b = ins l k m b := by unfold insL; rw [if_neg (by omega), if_neg h2, Int.toNat_natCast, hl, hm]
        rw [hc, L2]
        have P1 : Pr (sep l k) := sep_Pr hP.2.2 k (by omega)
        have CS1 := Lib.hid (fun (w0 : World) (g' cap : Nat) (W' : World) (h : Own w0 W' (.slice (some ⟨g', 0, none⟩) n cap) l) => refsep_any w0 g' n cap l hP.2.2 k (by omega) (by omega) W' h)
        have CB := Lib.hid (fun W' => refblank_any b W')
        have CB' := Lib.hid (fun b' W' => refblank_any b' W')
        have HMIN := Lib.hid hmin
        have HM1 := Lib.hid hm1
        have hm132 : (m : Int) ≤ 132 := by omega
        have hm0 : (0 : Int) ≤ (m : Int) := by omega
        obtain ⟨e, he⟩ : ∃ e, n - m = e := ⟨_, rfl⟩
        have hsub : (n : Int) - (m : Int) = (e : Int) := by omega
        have hke : k ≤ e ∧ e ≤ n ∧ e < n := by omega
        have hkez : (k : Int) ≤ (e : Int) := by omega
        have hezn : (e : Int) ≤ (n : Int) := by omega
        have hfin : cutL ((sep l k).take k ++ blanks m b ++ ((sep l k).drop k).take (e - k)) = ins l k m b := by rw [← ref_ins hP.2.2 hm1.1 (by omega) b, hl, he]
        have HF := Lib.hid hfin
        have hXl : (sep l k).length = n := by rw [sep_length, hl]
        obtain ⟨X, hX⟩ : ∃ X, sep l k = X := ⟨_, rfl⟩
        rw [hX] at CS1 HF hXl
        have HXL := Lib.hid hXl
        have HKE := Lib.hid hke
        clear hc hbad hq hP h1 L2 P1 hX hXl hke hm he hfin
        go_enter Tryd.func24, Tryd.ntmps24
        go_wp2_with fail
        refine (CC.out).mono ?_
        rintro e w1 ⟨rfl, b1⟩
        have B1 := Lib.hid (HW.out.trans (b1.mono HW.out.size))
        have BW1 := Lib.hid b1
        clear b1 CC
        go_wp2_with fail
        refine (CP.out w1 (HR.out.below B1.out)).mono ?_
        rintro e w2 ⟨g2, cap, rfl, hO⟩
        have O2 := Lib.hid hO
        clear hO CP
        go_wp2_with fail
        refine (CS1.out w1 g2 cap w2 O2.out).mono ?_
        rintro e' w3 ⟨rfl, hO3⟩
        have O3 := Lib.hid hO3
        clear hO3 CS1 O2
        have hcap := O3.out.cap
        have hkc : (k : Int) ≤ (cap : Int) := by omega
        have hnc2 : (n : Int) ≤ (cap : Int) := by omega
        have hec : (e : Int) ≤ (cap : Int) := by omega
        have HX := Lib.hid O3.out.rd.1
        have HXK := Lib.hid (HX.out.head (i := k) (by omega))
        have BX := Lib.hid O3.out.2
        have N0 := Lib.hid (Own.start w3)
        have l1 : ([] : List C).length + (X.take k).length ≤ 100000 := by rw [List.length_nil, List.length_take, HXL.out]; omega
        go_wp2_with (at_builtin; refine wpList_joinW rfl (.tmp 40) (.tmp 43) rfl w3 _ _ [] (X.take k) g2 0 k cap rfl rfl N0.out HXK.out l1 ?_; intro A5 n5 c5 w5 hO5; rw [List.nil_append] at hO5; have HO5 := Lib.hid hO5.out; have HX5 := Lib.hid (HX.out.below HO5.out.2); clear hO5)
        go_loopg [12, 13] (m + 1) (fun gk v12 v13 wr => ∃ r : Nat, gk + r = m + 1 ∧ r ≤ m ∧ v13 = .int .i64 (r : Int) ∧ ∃ A' n' c', v12 = .slice A' n' c' ∧ Aside (Own w3 wr (.slice A' n' c') (X.take k ++ blanks r b)))
        case atStart => exact ⟨0, by omega, Nat.zero_le _, rfl, _, _, _, rfl, by show Own _ _ _ _; simpa [blanks] using HO5.out⟩
        case round =>
          obtain ⟨r, hgk, hrm, rfl, A', n', c', rfl, hA⟩ := hrel
          by_cases hlt : r < m
          · obtain ⟨gf, rfl⟩ : ∃ gf, gk = gf + 1 := ⟨gk - 1, by omega⟩
            have hz : (r : Int) < (m : Int) := by omega
            have hz0 : (0 : Int) ≤ (r : Int) := by omega
            have p1 := cell_of_row wr _ 1 _ _ _ (HKA.out wr (BW1.out.trans ((BX.out.trans (hA.out.2.mono BX.out.size)).mono BW1.out.size)))
            have hbl : (blanks r b).length = r := blanks_length r b
            have hl1 : (X.take k ++ blanks r b).length + ([Cr.blank b] : List C).length ≤ 100000 := by
              rw [List.length_append, hbl]
              have := HXL.out
              simp
              omega
            have HBS := Lib.hid (blanks_succ r b)
            have HA := Lib.hid hA.out
            clear hA hbl
            go_wp2_with fail
            refine (CB.out wr).mono ?_
            rintro e' w7 ⟨rfl, d1⟩
            have hO := Own.laid w7 [Cr.blank b] #[.string ⟨#[32]⟩, .int .i64 1, .int .i64 (-1), .int .i64 b, .int .i64 0] 1 rfl (by decide) rfl
            have HO := Lib.hid hO.rd
            have HM := Lib.hid ((HA.out.below d1).below hO.2)
            clear hO d1 p1
            go_wp2_with (at_builtin; refine wpList_joinW rfl (.tmp 50) (.tmp 54) rfl w3 _ _ (X.take k ++ blanks r b) [Cr.blank b] _ 0 1 1 rfl rfl HM.out HO.out.1 hl1 ?_; intro A8 n8 c8 w8 hO8; rw [List.append_assoc, HBS.out] at hO8; have HO8 := Lib.hid hO8.out; clear hO8)
            go_roundg gf
            case measure => omega
            case rel => exact ⟨r + 1, by omega, by omega, by go_num, _, _, _, rfl, HO8.out⟩
          · have hz : ¬ (r : Int) < (m : Int) := by omega
            have hq : r = m := by omega
            subst hq
            have HA := Lib.hid hA.out
            have hck : ¬ cap = k := by omega
            have hpart := (HX.out.below hA.out.2).part k e HKE.out.1 HKE.out.2.1
            rw [Nat.zero_add] at hpart
            have HPT := Lib.hid hpart
            have hl3 : (X.take k ++ blanks r b).length + ((X.drop k).take (e - k)).length ≤ 100000 := by
              rw [List.length_append, blanks_length, List.length_take, List.length_take, List.length_drop, HXL.out]
              omega
            have hNl : (X.take k ++ blanks r b ++ (X.drop k).take (e - k)).length = n := by
              have h1 := HM1.out
              have h2 := HKE.out
              rw [List.length_append, List.length_append, blanks_length, List.length_take, List.length_take, List.length_drop, HXL.out]
              omega
            obtain ⟨N, hN⟩ : ∃ N, X.take k ++ blanks r b ++ (X.drop k).take (e - k) = N := ⟨_, rfl⟩
            rw [hN] at HF hNl
            have HNE := Lib.hid hN
            have HNL := Lib.hid hNl
            clear hA hpart hN hNl
            obtain ⟨j, hj⟩ : ∃ j, n = j + 1 := ⟨n - 1, by omega⟩
            have hj1 : (n : Int) - 1 = (j : Int) := by omega
            have hj0 : (0 : Int) ≤ (j : Int) := by omega
            have hjn : (j : Int) < (n : Int) := by omega
            obtain ⟨y, hy⟩ : ∃ y, N[j]? = some y := ⟨_, List.getElem?_eq_getElem (show j < N.length by rw [HNL.out]; omega)⟩
            have hcs := cutL_set (Y := N) (k := j) (c := y) (by rw [HNL.out]; exact hj) hy
            rw [HF.out] at hcs
            have HCS := Lib.hid hcs
            have HY := Lib.hid hy
            have hjl : j < N.length := by rw [HNL.out]; omega
            have HJL := Lib.hid hjl
            have BB := Lib.hid (B1.out.trans (BX.out.mono B1.out.size))
            clear hcs hy hjl hj
            by_cases hw : y.w = 2
            · have e1 : ins l k r b = N.set j (Cr.blank y.b) := by rw [HCS.out, if_pos hw]
              have HE1 := Lib.hid e1
              have HWW := Lib.hid hw
              clear e1 hw
              go_wp2_with (first | (at_builtin; refine wpList_joinW rfl (.tmp 56) (.tmp 63) rfl w3 _ _ (X.take k ++ blanks r b) ((X.drop k).take (e - k)) g2 (k * 5) (e - k) (cap - k) rfl rfl HA.out HPT.out hl3 ?_; intro A9 n9 c9 w9 hO9; have HO9 := Lib.hid hO9.out; rw [HNE.out] at HO9; clear hO9; obtain rfl : n = n9 := HNL.out.symm.trans HO9.out.rd.1.1; obtain ⟨b9, rfl⟩ : ∃ b9, A9 = some ⟨b9, 0, none⟩ := own_addr HO9.out (by omega); obtain ⟨⟨p0, p1', p2, p3, p4⟩, pf⟩ := HO9.out.here j y HY.out; rw [HWW.out] at p1') | (go_at_call 40; fail))
              refine (CB'.out y.b w9).mono ?_
              rintro e' w10 ⟨rfl, d1⟩
              have O10 := Lib.hid (HO9.out.below d1)
              obtain ⟨⟨s0, s1, s2, s3, s4⟩, sf⟩ := O10.out.here j y HY.out
              have O11 := Lib.hid (O10.out.put j (Cr.blank y.b) HJL.out)
              clear d1 p0 p1' p2 p3 p4 pf
              go_wp2
              go_ret2
              exact ⟨_, _, _, rfl, by rw [HE1.out]; exact O11.out.mine.gives.rebase BB.out⟩
            · have e1 : ins l k r b = N := by rw [HCS.out, if_neg hw]
              have HE1 := Lib.hid e1
              have hwb : (y.w == 2) = false := beq_eq_false_iff_ne.2 hw
              clear e1
              go_wp2_with (at_builtin; refine wpList_joinW rfl (.tmp 56) (.tmp 63) rfl w3 _ _ (X.take k ++ blanks r b) ((X.drop k).take (e - k)) g2 (k * 5) (e - k) (cap - k) rfl rfl HA.out HPT.out hl3 ?_; intro A9 n9 c9 w9 hO9; have HO9 := Lib.hid hO9.out; rw [HNE.out] at HO9; clear hO9; obtain rfl : n = n9 := HNL.out.symm.trans HO9.out.rd.1.1; obtain ⟨b9, rfl⟩ : ∃ b9, A9 = some ⟨b9, 0, none⟩ := own_addr HO9.out (by omega); obtain ⟨⟨p0, p1', p2, p3, p4⟩, pf⟩ := HO9.out.here j y HY.out)
              go_ret2
              exact ⟨_, _, _, rfl, by rw [HE1.out]; exact HO9.out.mine.gives.rebase BB.out⟩
  · have hqb : (((q : Nat) : Int) != 0) = true := nat_ne h0
    have hc : colE l col = 1 := by unfold colE; rw [if_pos (by omega)]
    rw [hbad (by omega), hc]
    clear hc hbad hq
    go_enter Tryd.func24, Tryd.ntmps24
    go_wp2_with fail
    refine (CC.out).mono ?_
    rintro e w1 ⟨rfl, b1⟩
    have B1 := Lib.hid (HW.out.trans (b1.mono HW.out.size))
    have BW1 := Lib.hid b1
    clear b1 CC
    go_wp2
    go_ret2
    exact ⟨_, _, _, rfl, gives_nil B1.out⟩

end Go.Proofs.YtcljmmadimldlaaDoor
