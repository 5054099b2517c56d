/-
  The document's own Fit of layer 7.
-/
import Derived.Test.YtgmgnlgolhjhmaaDoorCrRefs
namespace Go.Proofs.YtgmgnlgolhjhmaaDoor
open Go.RowKit Go.Shelf Cr

theorem Own.head {w0 w : World} {g n cap : Nat} {l : List C} (h : Own w0 w (.slice (some ⟨g, 0, none⟩) n cap) l) {k : Nat} (hk : k ≤ n) : Own w0 w (.slice (some ⟨g, 0, none⟩) k cap) (l.take k) := by
  have hl : l.length = n := h.rd.1.1
  obtain ⟨⟨hx, hr⟩, hb⟩ := h
  rcases hr with ⟨e, _⟩ | ⟨g', cap', cur, e, hbase, hg, h1, h2, h3, h4⟩
  · injection e with e; cases e
  · injection e with e1 e2 e3
    injection e1 with e1
    injection e1 with e1
    subst e1 e3
    have hkl : (l.take k).length = k := by rw [List.length_take]; omega
    refine ⟨⟨flat_length _, .inr ⟨g, cap, cur, by rw [hkl], hbase, hg, by omega, h2, h3, ?_⟩⟩, hb⟩
    rw [hkl, ← flat_take, ← h4, List.take_take, Nat.min_eq_left (by omega)]
theorem cutL_set {Y : List C} {k : Nat} {c : C} (hk : Y.length = k + 1) (hc : Y[k]? = some c) : cutL Y = if c.w = 2 then Y.set k (Cr.blank c.b) else Y := by
  rcases List.eq_nil_or_concat Y with rfl | ⟨m, d, rfl⟩
  · simp at hk
  · rw [List.concat_eq_append] at hk hc ⊢
    have hm : m.length = k := by rw [List.length_append, List.length_singleton] at hk; omega
    subst hm
    have e : d = c := by simpa using hc
    subst e
    rw [cutL_snoc, List.set_append_right _ _ (Nat.le_refl _)]
    by_cases h : d.w = 2
    · rw [if_pos h, if_pos h]; simp
    · rw [if_neg h, if_neg h]
theorem ref_fit {l : List C} (h : Pr l) (v : Nat) : cutL ((l ++ blanks (v - l.length) (-1)).take v) = fit l v := by
  rcases Nat.lt_or_ge l.length v with hv | hv
  · rw [fit_long h (by omega), List.take_of_length_le (by rw [List.length_append, blanks_length]; omega), cutL_proper (h.app (blanks_Pr _ _))]
  · rw [fit_short hv, List.take_append_of_le_length hv]

set_option maxHeartbeats 4000000 in
set_option maxRecDepth 100000 in
theorem reffit_any (A : Option Addr) (n c : Nat) (l : List C) (x : Int) (w : World) (hr : Rd w A n l) (hmax : n ≤ 9223372036854775807) (ht : ∀ y ∈ l, y.t.size ≤ 300) :
    Calls Tryd.prog 28 #[.slice A n c, .int .i64 x] w fun e w' => ∃ A' n' c', e = .returned (.slice A' n' c') ∧ GivesC w w' A' n' c' (fitL l x) ∧ Fr w A' := by
  have hl : l.length = n := hr.1
  have CC := Lib.hid (refCheckRow_any A n c l w hr hmax ht)
  have HR := Lib.hid hr
  obtain ⟨q, hq⟩ : ∃ q, check l = q := ⟨_, rfl⟩
  rw [hq] at CC
  clear hr
  by_cases h0 : q = 0
  · subst h0
    by_cases h1 : 1 ≤ x ∧ x ≤ 132
    · have hP := check_zero.1 hq
      obtain ⟨v, rfl⟩ : ∃ v : Nat, x = (v : Int) := ⟨x.toNat, by omega⟩
      have L2 : fitL l (v : Int) = fit l v := by unfold fitL; rw [if_pos ⟨hq, h1⟩, Int.toNat_natCast]
      rw [L2, ← ref_fit hP.2.2, hl]
      obtain ⟨Z, hZ⟩ : ∃ Z, cutL ((l ++ blanks (v - n) (-1)).take v) = Z := ⟨_, rfl⟩
      rw [hZ]
      have HZ := Lib.hid hZ
      clear hZ
      obtain ⟨ab, ao, rfl⟩ := HR.out.addr (by omega)
      have CP := Lib.hid (fun W' (h : Rd W' (some ⟨ab, ao, none⟩) n l) => copied_any ab ao n c l (by omega) W' h)
      have CB := Lib.hid (fun b W' => refblank_any b W')
      have hv1 : ¬ (v : Int) < 1 := by omega
      have hv2 : ¬ (132 : Int) < (v : Int) := by omega
      have hv3 : (v : Int) ≤ 132 := by omega
      have hn132 : n ≤ 132 := by omega
      have hvp : 1 ≤ v ∧ v ≤ 132 := by omega
      have HVP := Lib.hid hvp
      have HL := Lib.hid hl
      clear L2 hq hP h1 hvp hl
      go_enter Tryd.func28, Tryd.ntmps28
      go_wp2_with fail
      refine CC.out.mono ?_
      rintro e w1 ⟨rfl, b1⟩
      have B1 := Lib.hid b1
      clear b1 CC
      go_wp2_with fail
      refine (CP.out w1 (HR.out.below B1.out)).mono ?_
      rintro e w2 ⟨g2, c2, rfl, hO⟩
      have O2 := Lib.hid hO
      clear hO CP
      go_wp2
      go_loopg [5] (v + 1) (fun gk v5 wr => ∃ (r : Nat) (gg cc : Nat), v < gk + r ∧ (r = 0 ∨ n + r ≤ v) ∧ v5 = .slice (some ⟨gg, 0, none⟩) (n + r) cc ∧ Aside (Own w1 wr (.slice (some ⟨gg, 0, none⟩) (n + r) cc) (l ++ blanks r (-1))))
      case atStart => exact ⟨0, g2, c2, by omega, .inl rfl, rfl, by show Own _ _ _ _; simpa [blanks] using O2.out⟩
      case round =>
        obtain ⟨r, gg, cc, hgk, hrv, rfl, hA⟩ := hrel
        obtain ⟨u, hu⟩ : ∃ u, n + r = u := ⟨_, rfl⟩
        rw [hu] at hA
        by_cases hlt : u < v
        · obtain ⟨gf, rfl⟩ : ∃ gf, gk = gf + 1 := ⟨gk - 1, by omega⟩
          have hz : (u : Int) < (v : Int) := by omega
          have hbl : (blanks r (-1)).length = r := blanks_length r (-1)
          have hl1 : (l ++ blanks r (-1)).length + ([Cr.blank (-1)] : List C).length ≤ 100000 := by rw [List.length_append, HL.out, hbl]; have := HVP.out; simp; omega
          have hlen : (l ++ blanks r (-1)).length + ([Cr.blank (-1)] : List C).length = n + (r + 1) := by rw [List.length_append, HL.out, hbl]; simp; omega
          have HLEN := Lib.hid hlen
          have hne : Value.slice (some ⟨gg, 0, none⟩) u cc ≠ .slice none 0 0 := by intro e; injection e with e; cases e
          have HBS := Lib.hid (blanks_succ r (-1))
          have HA := Lib.hid hA.out
          have HU := Lib.hid hu
          clear hA hbl hlen
          rw [hu]
          clear hu
          go_wp2_with fail
          refine (CB.out (-1) wr).mono ?_
          rintro e w3 ⟨rfl, d1⟩
          have hO := Own.laid w3 [Cr.blank (-1)] #[.string ⟨#[32]⟩, .int .i64 1, .int .i64 (-1), .int .i64 (-1), .int .i64 0] 1 rfl (by decide) rfl
          have HO := Lib.hid hO.rd
          have HM := Lib.hid ((HA.out.below d1).below hO.2)
          clear hO d1
          go_wp2_with (at_builtin; refine wpList_joinO rfl (.tmp 23) (.tmp 25) rfl w1 _ _ (l ++ blanks r (-1)) [Cr.blank (-1)] _ 0 1 1 rfl rfl HM.out HO.out.1 hl1 hne ?_; intro g4 c4 w4 hO4; have HO4 := Lib.hid hO4.out; clear hO4)
          go_roundg gf
          case measure => omega
          case rel =>
            have h4 := HO4.out
            rw [HLEN.out, List.append_assoc, HBS.out] at h4
            exact ⟨r + 1, g4, c4, by omega, .inr (by have := HU.out; omega), by rw [show l.length + (blanks r (-1)).length + 1 = n + (r + 1) by rw [HL.out, blanks_length]; omega], h4⟩
        · have hz : ¬ (u : Int) < (v : Int) := by omega
          have hr2 : r = v - n := by omega
          subst hr2
          have hcap := hA.out.cap
          have hvc : (v : Int) ≤ (cc : Int) := by omega
          have hv0 : (0 : Int) ≤ (v : Int) := by omega
          have hvu : (v : Int) ≤ (u : Int) := by omega
          have hH := hA.out.head (k := v) (by omega)
          obtain ⟨Y, hY⟩ : ∃ Y, (l ++ blanks (v - n) (-1)).take v = Y := ⟨_, rfl⟩
          rw [hY] at hH
          have hZY : Z = cutL Y := by rw [← HZ.out, hY]
          have HZY := Lib.hid hZY
          clear hZY
          have hYl : Y.length = v := hH.rd.1.1
          obtain ⟨k, hk⟩ : ∃ k, v = k + 1 := ⟨v - 1, by have := HVP.out; omega⟩
          have hsub : (v : Int) - 1 = (k : Int) := by omega
          have hk0 : (0 : Int) ≤ (k : Int) := by omega
          have hkv : (k : Int) < (v : Int) := by omega
          obtain ⟨y, hy⟩ : ∃ y, Y[k]? = some y := ⟨_, List.getElem?_eq_getElem (show k < Y.length by omega)⟩
          have hcs := cutL_set (Y := Y) (k := k) (c := y) (by omega) hy
          obtain ⟨⟨p0, p1, p2, p3, p4⟩, pf⟩ := hH.here k y hy
          have HH := Lib.hid hH
          have HCS := Lib.hid hcs
          have HY := Lib.hid hy
          have hkl : k < Y.length := by omega
          have HKL := Lib.hid hkl
          clear hH hcs hy hY hA hYl hkl hcap
          rw [hu]
          clear hu hk
          by_cases hw : y.w = 2
          · have e1 : Z = Y.set k (Cr.blank y.b) := by rw [HZY.out, HCS.out, if_pos hw]
            have HE1 := Lib.hid e1
            rw [hw] at p1
            clear e1 hw
            go_wp2_with fail
            refine (CB.out y.b wr).mono ?_
            rintro e w3 ⟨rfl, d1⟩
            have O3 := Lib.hid (HH.out.below d1)
            obtain ⟨⟨s0, s1, s2, s3, s4⟩, sf⟩ := O3.out.here k y HY.out
            have O4 := Lib.hid (O3.out.put k (Cr.blank y.b) HKL.out)
            clear d1 p0 p1 p2 p3 p4 pf
            go_wp2
            go_ret
            exact ⟨_, _, _, rfl, by rw [HE1.out]; exact O4.out.mine.gives.rebase B1.out, O4.out.mine.fr.rebase B1.out⟩
          · have e1 : Z = Y := by rw [HZY.out, HCS.out, if_neg hw]
            have HE1 := Lib.hid e1
            have hwb : (y.w == 2) = false := beq_eq_false_iff_ne.2 hw
            clear e1
            go_wp2
            go_ret
            exact ⟨_, _, _, rfl, by rw [HE1.out]; exact HH.out.mine.gives.rebase B1.out, HH.out.mine.fr.rebase B1.out⟩
    · have L2 : fitL l x = [] := by unfold fitL; rw [if_neg (fun h => h1 h.2)]
      rw [L2]
      have hor : x < 1 ∨ (¬ x < 1 ∧ 132 < x) := by omega
      clear L2 hq h1
      rcases hor with ha | ⟨ha, hb⟩
      all_goals
        go_enter Tryd.func28, Tryd.ntmps28
        go_wp2_with fail
        refine CC.out.mono ?_
        rintro e w1 ⟨rfl, b1⟩
        have B1 := Lib.hid b1
        clear b1 CC
        go_wp2
        go_ret
        exact ⟨_, _, _, rfl, gives_nil B1.out, Fr.none _⟩
  · have hqb : (((q : Nat) : Int) != 0) = true := nat_ne h0
    have L2 : fitL l x = [] := by unfold fitL; rw [if_neg (fun h => by omega)]
    rw [L2]
    clear L2 hq
    go_enter Tryd.func28, Tryd.ntmps28
    go_wp2_with fail
    refine CC.out.mono ?_
    rintro e w1 ⟨rfl, b1⟩
    have B1 := Lib.hid b1
    clear b1 CC
    go_wp2
    go_ret
    exact ⟨_, _, _, rfl, gives_nil B1.out, Fr.none _⟩

end Go.Proofs.YtgmgnlgolhjhmaaDoor
