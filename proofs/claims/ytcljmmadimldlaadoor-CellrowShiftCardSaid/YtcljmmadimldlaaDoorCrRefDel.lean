/-
  The document's own Insert and Delete of layer 7.
-/
import Derived.Test.YtcljmmadimldlaaDoorCrRefFit
namespace Go.Proofs.YtcljmmadimldlaaDoor
open Go.RowKit Go.Shelf Cr

theorem wp_joinW {o : Oper} {a : Act} {K : Act → World → Prop} {Q : Exit → Act → World → Prop} (s x : Operand)
    (ho : o.op = .call { callee := .builtin .append, args := #[s, x], argTypes := #[22, 22] })
    (w0 w : World) (v : Value) (l ys : List C) (b off m c : Nat) (hs : a.eval s = v) (hx : a.eval x = .slice (some ⟨b, off, none⟩) m c) (hv : Own w0 w v l) (hy : Rd w (some ⟨b, off, none⟩) m ys) (hl : l.length + ys.length ≤ 100000)
    (h : ∀ (A' : Option Addr) (n' c' : Nat) w', Aside (Own w0 w' (.slice A' n' c') (l ++ ys)) → K (a.put o.dst (.slice A' n' c')) w') : Oper.wp Tryd.prog o a w K Q := by
  obtain ⟨v', w', hrun, hO, _⟩ := run_joinO o.type w0 w v l ys b off m c hv hy hl
  have hv' : ∃ A' n' c', v' = .slice A' n' c' := by obtain ⟨A', c', e⟩ := hO.mine.slice; exact ⟨A', _, c', e⟩
  obtain ⟨A', n', c', e⟩ := hv'
  subst e
  unfold Oper.wp
  simp [execOp, ho, resolve, invoke, builtin, hs, hx, hrun, Result.andThen]
  exact h A' n' c' w' hO
theorem wpList_joinW {ops : Array Oper} {rest : List Oper} {o : Oper} {a : Act} {Q : Exit → Act → World → Prop} (hgd : o.guard = none) (s x : Operand)
    (ho : o.op = .call { callee := .builtin .append, args := #[s, x], argTypes := #[22, 22] })
    (w0 w : World) (v : Value) (l ys : List C) (b off m c : Nat) (hs : a.eval s = v) (hx : a.eval x = .slice (some ⟨b, off, none⟩) m c) (hv : Own w0 w v l) (hy : Rd w (some ⟨b, off, none⟩) m ys) (hl : l.length + ys.length ≤ 100000)
    (h : ∀ (A' : Option Addr) (n' c' : Nat) w', Aside (Own w0 w' (.slice A' n' c') (l ++ ys)) → wpList Tryd.prog ops Q rest (a.put o.dst (.slice A' n' c')) w') : wpList Tryd.prog ops Q (o :: rest) a w :=
  wpList_plain hgd fun _ hK => wp_joinW s x ho w0 w v l ys b off m c hs hx hv hy hl fun A' n' c' w' hO => hK _ _ (h A' n' c' w' hO)
theorem sep_right {l : List C} (h : Pr l) (k : Nat) (hk : k ≤ l.length) : (sep l k).drop k = cutR (l.drop k) := by
  rw [sep_cut h k hk, List.drop_left' (by rw [cutL_length, List.length_take]; omega)]
theorem ref_ins {l : List C} (h : Pr l) {k m : Nat} (hm : 1 ≤ m) (hk : k + m ≤ l.length) (b : Int) : cutL ((sep l k).take k ++ blanks m b ++ ((sep l k).drop k).take (l.length - m - k)) = ins l k m b := by
  unfold ins
  rw [sep_left h k (by omega), sep_right h k (by omega)]
  by_cases he : (cutR (l.drop k)).take (l.length - m - k) = []
  · rw [he, List.append_nil, cutL_nil, List.append_nil, cutL_app _ _ (fun e => by have := congrArg List.length e; rw [blanks_length, List.length_nil] at this; omega), cutL_proper (blanks_Pr _ _)]
  · rw [cutL_app _ _ he]
theorem tail_cap {w : World} {g n cap e : Nat} {l : List C} (h : Rd w (some ⟨g, 0, none⟩) n l) (hc : n ≤ cap) (he : e ≤ n) {bq oq : Nat} (hR : (if cap = e then some ⟨g, 0, none⟩ else some ⟨g, e * 5, none⟩) = some (⟨bq, oq, none⟩ : Addr)) : Rd w (some ⟨bq, oq, none⟩) (n - e) (l.drop e) := by
  by_cases hce : cap = e
  · have : n = e := by omega
    subst this
    rw [Nat.sub_self, List.drop_of_length_le (by rw [h.1]; exact Nat.le_refl _)]
    exact Rd.nil _ _
  · rw [if_neg hce] at hR
    injection hR with hR
    injection hR with h1 h2
    subst h1 h2
    have := h.part e n he (Nat.le_refl _)
    rw [Nat.zero_add, List.take_of_length_le (by rw [List.length_drop, h.1]; exact Nat.le_refl _)] at this
    exact this

set_option maxHeartbeats 4000000 in
set_option maxRecDepth 100000 in
theorem refdelete_any (A : Option Addr) (n c : Nat) (l : List C) (col x : Int) (f b g : Int) (w : World) (hr : Rd w A n l) (hmax : n ≤ 9223372036854775807) (ht : ∀ x ∈ l, x.t.size ≤ 300) :
    Calls Tryd.prog 26 #[.slice A n c, .int .i64 col, .int .i64 x, .agg #[.int .i64 f, .int .i64 b, .int .i64 g]] w fun e w' => ∃ A' n' c', e = .returned (.tuple #[.slice A' n' c', .int .i64 (colE l col : Nat)]) ∧ GivesC w w' A' n' c' (delL l col x b) := by
  have hl : l.length = n := hr.1
  obtain ⟨W, hW⟩ : ∃ W, w.alloc (.cells #[.int .i64 f, .int .i64 b, .int .i64 g] 24) = W := ⟨_, rfl⟩
  have bW : Below w.heap.size w W := by rw [← hW]; exact (Below.refl _ _).alloc (Nat.le_refl _) _
  have hkA : W.heap[w.heap.size]? = some (.cells #[.int .i64 f, .int .i64 b, .int .i64 g] 24) := by rw [← hW]; exact heap_alloc_new w _
  have HKA := Lib.hid (fun W' (h : Below W.heap.size W W') => (h.block _ (Array.getElem?_eq_some_iff.1 hkA).1).trans hkA)
  have HR := Lib.hid hr
  have HW := Lib.hid bW
  have CC := Lib.hid (refCheckRow_any A n c l W (hr.below bW) hmax ht)
  obtain ⟨q, hq⟩ : ∃ q, check l = q := ⟨_, rfl⟩
  rw [hq] at CC
  have hbad : colE l col ≠ 0 → delL l col x b = [] := fun h => by unfold delL; rw [if_pos h]
  clear hr bW hkA ht
  by_cases h0 : q = 0
  · subst h0
    have hP := check_zero.1 hq
    by_cases h1 : col < 0 ∨ (n : Int) ≤ col
    · have hc : colE l col = 2 := by unfold colE; rw [if_neg (by omega), if_pos (by omega)]
      rw [hbad (by omega), hc]
      have hor : col < 0 ∨ (¬ col < 0 ∧ (n : Int) ≤ col) := by omega
      clear hc hbad hq hP h1
      rcases hor with ha | ⟨ha, hb⟩
      all_goals
        go_enter Tryd.func26, Tryd.ntmps26
        go_wp2_with fail
        refine (CC.out).mono ?_
        rintro e w1 ⟨rfl, b1⟩
        have B1 := Lib.hid (HW.out.trans (b1.mono HW.out.size))
        have BW1 := Lib.hid b1
        clear b1 CC
        go_wp2
        go_ret2
        exact ⟨_, _, _, rfl, gives_nil B1.out⟩
    · have hc : colE l col = 0 := by unfold colE; rw [if_neg (by omega), if_neg (by omega)]
      obtain ⟨k, rfl⟩ : ∃ k : Nat, col = (k : Int) := ⟨col.toNat, by omega⟩
      obtain ⟨ab, ao, rfl⟩ := HR.out.addr (by omega)
      have CP := Lib.hid (fun W' (h : Rd W' (some ⟨ab, ao, none⟩) n l) => copied_any ab ao n c l (by omega) W' h)
      have hk0 : (0 : Int) ≤ (k : Int) := by omega
      have hk0' : ¬ (k : Int) < 0 := by omega
      have hkn : (k : Int) < (n : Int) := by omega
      have hkn' : ¬ (n : Int) ≤ (k : Int) := by omega
      have hn132 : (n : Int) ≤ 132 := by omega
      by_cases h2 : x < 1
      · have L2 : delL l (k : Int) x b = l := by unfold delL; rw [if_neg (by omega), if_pos h2]
        rw [hc, L2]
        clear hc hbad hq hP h1 L2
        go_enter Tryd.func26, Tryd.ntmps26
        go_wp2_with fail
        refine (CC.out).mono ?_
        rintro e w1 ⟨rfl, b1⟩
        have B1 := Lib.hid (HW.out.trans (b1.mono HW.out.size))
        have BW1 := Lib.hid b1
        clear b1 CC
        go_wp2_with fail
        refine (CP.out w1 (HR.out.below B1.out)).mono ?_
        rintro e w2 ⟨g2, cap, rfl, hO⟩
        have O2 := Lib.hid hO
        clear hO CP
        go_wp2
        go_ret2
        exact ⟨_, _, _, rfl, O2.out.mine.gives.rebase B1.out⟩
      · obtain ⟨m, hm⟩ : ∃ m, min x.toNat (n - k) = m := ⟨_, rfl⟩
        have hmin : min x ((n : Int) - (k : Int)) = (m : Int) := by omega
        have hm1 : 1 ≤ m ∧ k + m ≤ n := by omega
        have L2 : delL l (k : Int) x b = del l k m b := by unfold delL; rw [if_neg (by omega), if_neg h2, Int.toNat_natCast, hl, hm]
        rw [hc, L2]
        have P1 : Pr (sep l k) := sep_Pr hP.2.2 k (by omega)
        have CS1 := Lib.hid (fun (w0 : World) (g' cap : Nat) (W' : World) (h : Own w0 W' (.slice (some ⟨g', 0, none⟩) n cap) l) => refsep_any w0 g' n cap l hP.2.2 k (by omega) (by omega) W' h)
        have CB := Lib.hid (fun W' => refblank_any b W')
        have HMIN := Lib.hid hmin
        have HM1 := Lib.hid hm1
        have hm132 : (m : Int) ≤ 132 := by omega
        have hm0 : (0 : Int) ≤ (m : Int) := by omega
        obtain ⟨e, he⟩ : ∃ e, k + m = e := ⟨_, rfl⟩
        have hadd : (k : Int) + (m : Int) = (e : Int) := by omega
        have hke : k ≤ e ∧ e ≤ n := by omega
        have he0 : (0 : Int) ≤ (e : Int) := by omega
        have hezn : (e : Int) ≤ (n : Int) := by omega
        have CS2 := Lib.hid (fun (w0 : World) (g' cap : Nat) (W' : World) (h : Own w0 W' (.slice (some ⟨g', 0, none⟩) n cap) (sep l k)) => refsep_any w0 g' n cap (sep l k) P1 e (by omega) (by omega) W' h)
        have hfin : (sep (sep l k) e).take k ++ (sep (sep l k) e).drop e ++ blanks m b = del l k m b := by
          unfold del
          rw [he, two_left hP.2.2 k e (by omega) (by omega), two_right hP.2.2 k e (by omega) (by omega)]
        have HF := Lib.hid hfin
        have hXl : (sep (sep l k) e).length = n := by rw [sep_length, sep_length, hl]
        obtain ⟨X0, hX0⟩ : ∃ X0, sep l k = X0 := ⟨_, rfl⟩
        rw [hX0] at CS1 CS2 HF hXl
        obtain ⟨X, hX⟩ : ∃ X, sep X0 e = X := ⟨_, rfl⟩
        rw [hX] at CS2 HF hXl
        have HXL := Lib.hid hXl
        have HKE := Lib.hid hke
        clear hc hbad hq hP h1 L2 P1 hX hX0 hXl hke hm he hfin
        go_enter Tryd.func26, Tryd.ntmps26
        go_wp2_with fail
        refine (CC.out).mono ?_
        rintro e w1 ⟨rfl, b1⟩
        have B1 := Lib.hid (HW.out.trans (b1.mono HW.out.size))
        have BW1 := Lib.hid b1
        clear b1 CC
        go_wp2_with fail
        refine (CP.out w1 (HR.out.below B1.out)).mono ?_
        rintro e w2 ⟨g2, cap, rfl, hO⟩
        have O2 := Lib.hid hO
        clear hO CP
        go_wp2_with fail
        refine (CS1.out w1 g2 cap w2 O2.out).mono ?_
        rintro e' w3 ⟨rfl, hO3⟩
        have O3 := Lib.hid hO3
        clear hO3 CS1 O2
        go_wp2_with fail
        refine (CS2.out w1 g2 cap w3 O3.out).mono ?_
        rintro e' w4 ⟨rfl, hO4⟩
        have O4 := Lib.hid hO4
        clear hO4 CS2 O3
        have hcap := O4.out.cap
        have hkc : (k : Int) ≤ (cap : Int) := by omega
        have hnc2 : (n : Int) ≤ (cap : Int) := by omega
        have hec : (e : Int) ≤ (cap : Int) := by omega
        have HX := Lib.hid O4.out.rd.1
        have HXK := Lib.hid (HX.out.head (i := k) (by omega))
        have BX := Lib.hid O4.out.2
        have N0 := Lib.hid (Own.start w4)
        have l1 : ([] : List C).length + (X.take k).length ≤ 100000 := by rw [List.length_nil, List.length_take, HXL.out]; omega
        obtain ⟨bq, oq, hR⟩ : ∃ bq oq, (if cap = e then some ⟨g2, 0, none⟩ else some ⟨g2, e * 5, none⟩) = some (⟨bq, oq, none⟩ : Addr) := by by_cases h : cap = e; exact ⟨g2, 0, by rw [if_pos h]⟩; exact ⟨g2, e * 5, by rw [if_neg h]⟩
        have HRR := Lib.hid hR
        have l2 : (X.take k).length + (X.drop e).length ≤ 100000 := by rw [List.length_take, List.length_drop, HXL.out]; omega
        go_wp2_with (first | (at_builtin; refine wpList_joinW rfl (.tmp 44) (.tmp 47) rfl w4 _ _ [] (X.take k) g2 0 k cap rfl rfl N0.out HXK.out l1 ?_; intro A5 n5 c5 w5 hO5; rw [List.nil_append] at hO5; have HO5 := Lib.hid hO5.out; have HX5 := Lib.hid (HX.out.below HO5.out.2); clear hO5) | (at_builtin; refine wpList_joinW rfl (.tmp 49) (.tmp 54) rfl w4 _ _ (X.take k) (X.drop e) bq oq (n - e) (cap - e) rfl rfl HO5.out (tail_cap HX5.out hcap HKE.out.2 HRR.out) l2 ?_; intro A6 n6 c6 w6 hO6; have HO6 := Lib.hid hO6.out; clear hO6))
        go_loopg [12, 13] (m + 1) (fun gk v12 v13 wr => ∃ r : Nat, gk + r = m + 1 ∧ r ≤ m ∧ v13 = .int .i64 (r : Int) ∧ ∃ A' n' c', v12 = .slice A' n' c' ∧ Aside (Own w4 wr (.slice A' n' c') ((X.take k ++ X.drop e) ++ blanks r b)))
        case atStart => exact ⟨0, by omega, Nat.zero_le _, rfl, _, _, _, rfl, by show Own _ _ _ _; simpa [blanks] using HO6.out⟩
        case round =>
          obtain ⟨r, hgk, hrm, rfl, A', n', c', rfl, hA⟩ := hrel
          by_cases hlt : r < m
          · obtain ⟨gf, rfl⟩ : ∃ gf, gk = gf + 1 := ⟨gk - 1, by omega⟩
            have hz : (r : Int) < (m : Int) := by omega
            have hz0 : (0 : Int) ≤ (r : Int) := by omega
            have p1 := cell_of_row wr _ 1 _ _ _ (HKA.out wr (BW1.out.trans ((BX.out.trans (hA.out.2.mono BX.out.size)).mono BW1.out.size)))
            have hbl : (blanks r b).length = r := blanks_length r b
            have hl1 : ((X.take k ++ X.drop e) ++ blanks r b).length + ([Cr.blank b] : List C).length ≤ 100000 := by
              rw [List.length_append, hbl]
              have := HXL.out
              simp
              omega
            have HBS := Lib.hid (blanks_succ r b)
            have HA := Lib.hid hA.out
            clear hA hbl
            go_wp2_with fail
            refine (CB.out wr).mono ?_
            rintro e' w7 ⟨rfl, d1⟩
            have hO := Own.laid w7 [Cr.blank b] #[.string ⟨#[32]⟩, .int .i64 1, .int .i64 (-1), .int .i64 b, .int .i64 0] 1 rfl (by decide) rfl
            have HO := Lib.hid hO.rd
            have HM := Lib.hid ((HA.out.below d1).below hO.2)
            clear hO d1 p1
            go_wp2_with (at_builtin; refine wpList_joinW rfl (.tmp 61) (.tmp 65) rfl w4 _ _ ((X.take k ++ X.drop e) ++ blanks r b) [Cr.blank b] _ 0 1 1 rfl rfl HM.out HO.out.1 hl1 ?_; intro A8 n8 c8 w8 hO8; rw [List.append_assoc, HBS.out] at hO8; have HO8 := Lib.hid hO8.out; clear hO8)
            go_roundg gf
            case measure => omega
            case rel => exact ⟨r + 1, by omega, by omega, by go_num, _, _, _, rfl, HO8.out⟩
          · have hz : ¬ (r : Int) < (m : Int) := by omega
            have hq : r = m := by omega
            subst hq
            go_wp2
            go_ret2
            refine ⟨_, _, _, rfl, ?_⟩
            rw [← HF.out]
            exact (hA.out.mine.gives.rebase BX.out).rebase B1.out
  · have hqb : (((q : Nat) : Int) != 0) = true := nat_ne h0
    have hc : colE l col = 1 := by unfold colE; rw [if_pos (by omega)]
    rw [hbad (by omega), hc]
    clear hc hbad hq
    go_enter Tryd.func26, Tryd.ntmps26
    go_wp2_with fail
    refine (CC.out).mono ?_
    rintro e w1 ⟨rfl, b1⟩
    have B1 := Lib.hid (HW.out.trans (b1.mono HW.out.size))
    have BW1 := Lib.hid b1
    clear b1 CC
    go_wp2
    go_ret2
    exact ⟨_, _, _, rfl, gives_nil B1.out⟩

end Go.Proofs.YtcljmmadimldlaaDoor
