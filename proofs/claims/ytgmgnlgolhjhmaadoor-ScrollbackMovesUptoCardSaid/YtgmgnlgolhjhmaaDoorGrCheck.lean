/-
  What Check and checkUse of grid return.
-/
import Derived.Test.YtgmgnlgolhjhmaaDoorGrFuncs
namespace Go.Proofs.YtgmgnlgolhjhmaaDoor
open Go.RowKit Go.Shelf Cr Gd

theorem drop_row {L : List (List C)} {k : Nat} {x : List C} (h : L[k]? = some x) : L.drop k = x :: L.drop (k + 1) := by
  obtain ⟨hk, e⟩ := List.getElem?_eq_some_iff.1 h
  rw [List.drop_eq_getElem_cons hk, e]
theorem rowsE_w {W : Int} {L : List (List C)} {k : Nat} {x : List C} (h : L[k]? = some x) (hw : (x.length : Int) ≠ W) : rowsE W (L.drop k) = 12 := by
  rw [drop_row h]; unfold rowsE; rw [if_pos hw]
theorem rowsE_c {W : Int} {L : List (List C)} {k : Nat} {x : List C} (h : L[k]? = some x) (hw : (x.length : Int) = W) (hc : check x ≠ 0) : rowsE W (L.drop k) = check x := by
  rw [drop_row h]; unfold rowsE; rw [if_neg (by omega), if_pos hc]
theorem rowsE_n {W : Int} {L : List (List C)} {k : Nat} {x : List C} (h : L[k]? = some x) (hw : (x.length : Int) = W) (hc : check x = 0) : rowsE W (L.drop k) = rowsE W (L.drop (k + 1)) := by
  rw [drop_row h]
  show (if (x.length : Int) ≠ W then 12 else if check x ≠ 0 then check x else rowsE W (L.drop (k + 1))) = _
  rw [if_neg (by omega), if_neg (by omega)]

set_option maxHeartbeats 4000000 in
set_option maxRecDepth 100000 in
theorem gcheck_any (W H : Int) (A : Option Addr) (n c : Nat) (L : List (List C)) (w : World) (hr : RdR w A n L) (hmax : n ≤ 9223372036854775807) (hs : SmR L) (hT : Lib.Utf8Tabs 0 1 w) :
    Calls Tryd.prog 25 #[.agg #[.int .i64 W, .int .i64 H, .slice A n c]] w fun e w' => e = .returned (.int .i64 (gE W H L : Nat)) ∧ Below w.heap.size w w' := by
  have hl : L.length = n := hr.1
  obtain ⟨V, hV⟩ : ∃ V, w.alloc (.cells #[.int .i64 W, .int .i64 H, .slice A n c] 35) = V := ⟨_, rfl⟩
  have bV : Below w.heap.size w V := by rw [← hV]; exact (Below.refl _ _).alloc (Nat.le_refl _) _
  have hk : V.heap[w.heap.size]? = some (.cells #[.int .i64 W, .int .i64 H, .slice A n c] 35) := by rw [← hV]; exact heap_alloc_new w _
  have q0 := cell_of_row V _ 0 _ _ _ hk
  have q1 := cell_of_row V _ 1 _ _ _ hk
  have q2 := cell_of_row V _ 2 _ _ _ hk
  have HK := Lib.hid (fun W' (h : Below V.heap.size V W') => (h.block _ (Array.getElem?_eq_some_iff.1 hk).1).trans hk)
  have HV := Lib.hid bV
  have CI := Lib.hid (fun U => isSize_any W H U)
  by_cases h0 : sizeOk W H
  · rw [decide_eq_true h0] at CI
    by_cases h1 : (n : Int) ≠ H
    · have e : gE W H L = 1 := by unfold gE; rw [if_neg (fun e => e h0), hl, if_pos h1]
      rw [e]
      have h1b : ((n : Int) != H) = true := by simpa using h1
      clear hk bV
      go_enter Tryd.func25, Tryd.ntmps25
      go_wp2_with fail
      refine (CI.out _).mono ?_
      rintro e w0 ⟨rfl, rfl⟩
      go_wp2
      go_ret
      exact ⟨rfl, HV.out⟩
    · have h1' : H = (n : Int) := by omega
      subst h1'
      have e : gE W (n : Int) L = rowsE W L := by unfold gE; rw [if_neg (fun e => e h0), hl, if_neg (by omega)]
      rw [e]
      obtain ⟨R, hR⟩ : ∃ R, rowsE W L = R := ⟨_, rfl⟩
      rw [hR]
      have HR0 := Lib.hid hR
      have HR := Lib.hid (fun W' (h : Below w.heap.size w W') => hr.below h)
      have HS := Lib.hid hs
      have HT := Lib.hid (fun W' (h : Below w.heap.size w W') => Utf8Tabs_below hT h)
      have HL := Lib.hid hl
      have hn60 : (n : Int) ≤ 60 := h0.2.2.2
      clear e hR hr hs hT hl hk bV h1 h0
      go_enter Tryd.func25, Tryd.ntmps25
      go_wp2_with fail
      refine (CI.out _).mono ?_
      rintro e w0 ⟨rfl, rfl⟩
      go_wp2
      go_loopg [4, 5, 21] (n + 1) (fun gk _ _ v21 wr => ∃ k : Nat, gk + k = n + 1 ∧ k ≤ n ∧ v21 = .int .i64 (k : Int) ∧ Aside (Below V.heap.size V wr ∧ R = rowsE W (L.drop k)))
      case atStart => exact ⟨0, by omega, Nat.zero_le _, rfl, Below.refl _ _, HR0.out.symm⟩
      case round =>
        obtain ⟨k, hg, hkn, rfl, hA⟩ := hrel
        clear q0 q1 q2
        by_cases hlt : k < n
        · obtain ⟨g', rfl⟩ : ∃ g', gk = g' + 1 := ⟨gk - 1, by omega⟩
          have hz : (k : Int) < (n : Int) := by omega
          have hz0 : (0 : Int) ≤ (k : Int) := by omega
          have HA := Lib.hid hA.out
          have HB := Lib.hid (HV.out.trans (HA.out.1.mono HV.out.size))
          have q0 := cell_of_row wr _ 0 _ _ _ (HK.out wr HA.out.1)
          have q2 := cell_of_row wr _ 2 _ _ _ (HK.out wr HA.out.1)
          obtain ⟨l, hx⟩ : ∃ l, L[k]? = some l := ⟨L[k]'(by rw [HL.out]; exact hlt), List.getElem?_eq_getElem _⟩
          obtain ⟨b, off, A', m, c', rfl, _, hc, hrd, hmc, _, hm63⟩ := (HR.out wr HB.out).at k l hx
          have hlm : l.length = m := hrd.1
          clear hA
          by_cases hw : (m : Int) ≠ W
          · have hwb : ((m : Int) != W) = true := by simpa using hw
            have HE := Lib.hid (HA.out.2.trans (rowsE_w hx (by rw [hlm]; exact hw)))
            clear hx hrd
            go_wp2
            go_ret
            exact ⟨ret_int (by rw [HE.out]; rfl), HB.out⟩
          · have hwW : W = (m : Int) := by omega
            subst hwW
            have CC := Lib.hid (checkRow_any A' m c' l wr hrd hmc hm63 (HS.out l (List.mem_of_getElem? hx)) (HT.out wr HB.out))
            obtain ⟨q, hq⟩ : ∃ q, check l = q := ⟨_, rfl⟩
            rw [hq] at CC
            by_cases hq0 : q = 0
            · subst hq0
              have HE := Lib.hid (HA.out.2.trans (rowsE_n hx (by rw [hlm]) hq))
              clear hx hrd hq hlm hw
              go_wp2_with fail
              refine CC.out.mono ?_
              rintro e w1 ⟨rfl, b1⟩
              have B1 := Lib.hid (HA.out.1.trans (b1.mono HA.out.1.size))
              clear b1 CC q0 q2 hc
              go_wp2
              go_roundg g'
              case measure => omega
              case rel => exact ⟨k + 1, by omega, by omega, by go_num, B1.out, HE.out⟩
            · have hqb : (((q : Nat) : Int) != 0) = true := nat_ne hq0
              have HE := Lib.hid (HA.out.2.trans ((rowsE_c hx (by rw [hlm]) (by omega)).trans hq))
              clear hx hrd hq hlm hw
              go_wp2_with fail
              refine CC.out.mono ?_
              rintro e w1 ⟨rfl, b1⟩
              have B1 := Lib.hid (HB.out.trans (b1.mono HB.out.size))
              clear b1 CC q0 q2 hc
              go_wp2
              go_ret
              exact ⟨ret_int (by rw [HE.out]), B1.out⟩
        · have hz : ¬ (k : Int) < (n : Int) := by omega
          have hq : k = n := by omega
          subst hq
          have hE : R = 0 := by rw [hA.out.2, List.drop_of_length_le (by rw [HL.out]; exact Nat.le_refl _)]; rfl
          have HE := Lib.hid hE
          have HB := Lib.hid (HV.out.trans (hA.out.1.mono HV.out.size))
          clear hE hA
          go_wp2
          go_ret
          exact ⟨ret_int (by rw [HE.out]; rfl), HB.out⟩
  · rw [decide_eq_false h0] at CI
    have e : gE W H L = 2 := by unfold gE; rw [if_pos h0]
    rw [e]
    clear hk bV
    go_enter Tryd.func25, Tryd.ntmps25
    go_wp2_with fail
    refine (CI.out _).mono ?_
    rintro e w0 ⟨rfl, rfl⟩
    go_wp2
    go_ret
    exact ⟨rfl, HV.out⟩

def useE (W H : Int) (L : List (List C)) (r : Bool) : Nat := if gE W H L ≠ 0 then 1 else if r = true then 0 else 2
set_option maxHeartbeats 2000000 in
set_option maxRecDepth 100000 in
theorem checkUse_any (W H : Int) (A : Option Addr) (n c : Nat) (L : List (List C)) (r : Bool) (w : World) (hr : RdR w A n L) (hmax : n ≤ 9223372036854775807) (hs : SmR L) (hT : Lib.Utf8Tabs 0 1 w) :
    Calls Tryd.prog 42 #[.agg #[.int .i64 W, .int .i64 H, .slice A n c], .bool r] w fun e w' => e = .returned (.int .i64 (useE W H L r : Nat)) ∧ Below w.heap.size w w' := by
  have bV := (Below.refl w.heap.size w).alloc (Nat.le_refl _) (.cells #[.int .i64 W, .int .i64 H, .slice A n c] 35)
  have CC := Lib.hid (gcheck_any W H A n c L _ (hr.below bV) hmax hs (Utf8Tabs_below hT bV))
  have HV := Lib.hid bV
  obtain ⟨q, hq⟩ : ∃ q, gE W H L = q := ⟨_, rfl⟩
  have hE : useE W H L r = if q ≠ 0 then 1 else if r = true then 0 else 2 := by unfold useE; rw [hq]
  rw [hq] at CC
  rw [hE]
  clear hE hq hr hs hT bV
  by_cases h0 : q = 0
  · subst h0
    cases r
    all_goals
      go_enter Tryd.func42, Tryd.ntmps42
      go_wp2_with fail
      refine CC.out.mono ?_
      rintro e w1 ⟨rfl, b1⟩
      have B1 := Lib.hid (HV.out.trans (b1.mono HV.out.size))
      clear b1 CC
      go_wp2
      go_ret
      exact ⟨rfl, B1.out⟩
  · have hqb : (((q : Nat) : Int) != 0) = true := nat_ne h0
    rw [if_pos h0]
    go_enter Tryd.func42, Tryd.ntmps42
    go_wp2_with fail
    refine CC.out.mono ?_
    rintro e w1 ⟨rfl, b1⟩
    have B1 := Lib.hid (HV.out.trans (b1.mono HV.out.size))
    clear b1 CC
    go_wp2
    go_ret
    exact ⟨rfl, B1.out⟩

end Go.Proofs.YtgmgnlgolhjhmaaDoor
