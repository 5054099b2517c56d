/-
  The document's own Check, Great, Right, SameRows and Same of layer 8.
-/
import Derived.Test.YtgmgnlgolhjhmaaDoorGrEnd
import Derived.Test.YtgmgnlgolhjhmaaDoorCrRefFit
import Derived.Deep.RegionHeld3
namespace Go.Proofs.YtgmgnlgolhjhmaaDoor
open Go.RowKit Go.Shelf Cr Gd

set_option maxRecDepth 100000 in
theorem sized_any (a b : Int) (w : World) : Calls Tryd.prog 52 #[.int .i64 a, .int .i64 b] w fun e w' => e = .returned (.bool (decide (sizeOk a b))) ∧ w = w' := by
  by_cases h1 : 1 ≤ a
  · by_cases h2 : a ≤ 132
    · by_cases h3 : 1 ≤ b
      · by_cases h4 : b ≤ 60
        · rw [decide_eq_true ⟨h1, h2, h3, h4⟩]
          go_enter Tryd.func52, Tryd.ntmps52
          go_wp2
          go_ret
          exact ⟨rfl, rfl⟩
        · rw [decide_eq_false (fun e => h4 e.2.2.2)]
          go_enter Tryd.func52, Tryd.ntmps52
          go_wp2
          go_ret
          exact ⟨rfl, rfl⟩
      · rw [decide_eq_false (fun e => h3 e.2.2.1)]
        go_enter Tryd.func52, Tryd.ntmps52
        go_wp2
        go_ret
        exact ⟨rfl, rfl⟩
    · rw [decide_eq_false (fun e => h2 e.2.1)]
      go_enter Tryd.func52, Tryd.ntmps52
      go_wp2
      go_ret
      exact ⟨rfl, rfl⟩
  · rw [decide_eq_false (fun e => h1 e.1)]
    go_enter Tryd.func52, Tryd.ntmps52
    go_wp2
    go_ret
    exact ⟨rfl, rfl⟩

set_option maxHeartbeats 4000000 in
set_option maxRecDepth 100000 in
theorem rcheck_any (W H : Int) (A : Option Addr) (n c : Nat) (L : List (List C)) (w : World) (hr : RdR w A n L) (hmax : n ≤ 9223372036854775807) (hs : SmR L) :
    Calls Tryd.prog 37 #[.agg #[.int .i64 W, .int .i64 H, .slice A n c]] w fun e w' => e = .returned (.int .i64 (gE W H L : Nat)) ∧ Below w.heap.size w w' := by
  have hl : L.length = n := hr.1
  obtain ⟨V, hV⟩ : ∃ V, w.alloc (.cells #[.int .i64 W, .int .i64 H, .slice A n c] 35) = V := ⟨_, rfl⟩
  have bV : Below w.heap.size w V := by rw [← hV]; exact (Below.refl _ _).alloc (Nat.le_refl _) _
  have hk : Kg V w.heap.size W H A n c := by rw [← hV]; exact heap_alloc_new w _
  have q0 := hk.c0
  have q1 := hk.c1
  have q2 := hk.c2
  have HK := Lib.hid hk
  have HV := Lib.hid bV
  have CI := Lib.hid (fun U => sized_any W H U)
  by_cases h0 : sizeOk W H
  · rw [decide_eq_true h0] at CI
    by_cases h1 : (n : Int) ≠ H
    · have e : gE W H L = 1 := by unfold gE; rw [if_neg (fun e => e h0), hl, if_pos h1]
      rw [e]
      have h1b : ((n : Int) != H) = true := by simpa using h1
      clear hk bV
      go_enter Tryd.func37, Tryd.ntmps37
      go_wp2_with fail
      refine (CI.out _).mono ?_
      rintro e w0 ⟨rfl, rfl⟩
      go_wp2
      go_ret
      exact ⟨rfl, HV.out⟩
    · have h1' : H = (n : Int) := by omega
      subst h1'
      have e : gE W (n : Int) L = rowsE W L := by unfold gE; rw [if_neg (fun e => e h0), hl, if_neg (by omega)]
      rw [e]
      obtain ⟨R, hR⟩ : ∃ R, rowsE W L = R := ⟨_, rfl⟩
      rw [hR]
      have HR0 := Lib.hid hR
      have HR := Lib.hid (fun W' (h : Below w.heap.size w W') => hr.below h)
      have HS := Lib.hid hs
      have HL := Lib.hid hl
      have hn60 : (n : Int) ≤ 60 := h0.2.2.2
      clear e hR hr hs hl hk bV h1 h0
      go_enter Tryd.func37, Tryd.ntmps37
      go_wp2_with fail
      refine (CI.out _).mono ?_
      rintro e w0 ⟨rfl, rfl⟩
      go_wp2
      go_loopg [3, 4] (n + 1) (fun gk v3 _ wr => ∃ k : Nat, gk + k = n + 1 ∧ k ≤ n ∧ v3 = .int .i64 (k : Int) ∧ Aside (Below V.heap.size V wr ∧ R = rowsE W (L.drop k)))
      case atStart => exact ⟨0, by omega, Nat.zero_le _, rfl, Below.refl _ _, HR0.out.symm⟩
      case round =>
        obtain ⟨k, hg, hkn, rfl, hA⟩ := hrel
        clear q0 q1 q2
        have HA := Lib.hid hA.out
        have HB := Lib.hid (HV.out.trans (HA.out.1.mono HV.out.size))
        have q0 := (HK.out.below HA.out.1).c0
        have q2 := (HK.out.below HA.out.1).c2
        clear hA
        by_cases hlt : k < n
        · obtain ⟨g', rfl⟩ : ∃ g', gk = g' + 1 := ⟨gk - 1, by omega⟩
          have hz : (k : Int) < (n : Int) := by omega
          have hz0 : (0 : Int) ≤ (k : Int) := by omega
          obtain ⟨l, hx⟩ : ∃ l, L[k]? = some l := ⟨L[k]'(by rw [HL.out]; exact hlt), List.getElem?_eq_getElem _⟩
          obtain ⟨b, off, A', m, c', rfl, _, hc, hrd, hmc, _, hm63⟩ := (HR.out wr HB.out).at k l hx
          have hlm : l.length = m := hrd.1
          by_cases hw : (m : Int) ≠ W
          · have hwb : ((m : Int) != W) = true := by simpa using hw
            have HE := Lib.hid (HA.out.2.trans (rowsE_w hx (by rw [hlm]; exact hw)))
            clear hx hrd
            go_wp2
            go_region
            go_wp2
            go_ret
            exact ⟨ret_int (by rw [HE.out]; rfl), HB.out.drew⟩
          · have hwW : W = (m : Int) := by omega
            subst hwW
            have CC := Lib.hid (refCheckRow_any A' m c' l wr.drew hrd.drew hm63 (HS.out l (List.mem_of_getElem? hx)))
            obtain ⟨q, hq⟩ : ∃ q, check l = q := ⟨_, rfl⟩
            rw [hq] at CC
            by_cases hq0 : q = 0
            · subst hq0
              have HE := Lib.hid (HA.out.2.trans (rowsE_n hx (by rw [hlm]) hq))
              clear hx hrd hq hlm hw
              go_wp2
              go_region
              go_wp2_with fail
              refine CC.out.mono ?_
              rintro e w1 ⟨rfl, b1⟩
              have B1 := Lib.hid (HA.out.1.drew.trans (b1.mono HA.out.1.drew.size))
              clear b1 CC q0 q2 hc
              go_wp2
              go_roundg g'
              case measure => omega
              case rel => exact ⟨k + 1, by omega, by omega, by go_num, B1.out, HE.out⟩
            · have hqb : (((q : Nat) : Int) != 0) = true := nat_ne hq0
              have HE := Lib.hid (HA.out.2.trans ((rowsE_c hx (by rw [hlm]) (by omega)).trans hq))
              clear hx hrd hq hlm hw
              go_wp2
              go_region
              go_wp2_with fail
              refine CC.out.mono ?_
              rintro e w1 ⟨rfl, b1⟩
              have B1 := Lib.hid (HB.out.drew.trans (b1.mono HB.out.drew.size))
              clear b1 CC q0 q2 hc
              go_wp2
              go_ret
              exact ⟨ret_int (by rw [HE.out]), B1.out⟩
        · have hz : ¬ (k : Int) < (n : Int) := by omega
          have hq : k = n := by omega
          subst hq
          have hE : R = 0 := by rw [HA.out.2, List.drop_of_length_le (by rw [HL.out]; exact Nat.le_refl _)]; rfl
          have HE := Lib.hid hE
          clear hE
          go_wp2
          go_ret
          exact ⟨ret_int (by rw [HE.out]; rfl), HB.out⟩
  · rw [decide_eq_false h0] at CI
    have e : gE W H L = 2 := by unfold gE; rw [if_pos h0]
    rw [e]
    clear hk bV
    go_enter Tryd.func37, Tryd.ntmps37
    go_wp2_with fail
    refine (CI.out _).mono ?_
    rintro e w0 ⟨rfl, rfl⟩
    go_wp2
    go_ret
    exact ⟨rfl, HV.out⟩

/-- Too great for the statements. -/
def greatR (L : List (List C)) : Bool := decide (10 < L.length) || L.any great
theorem greatR_false {L : List (List C)} (h : greatR L = false) : L.length ≤ 10 ∧ SmR L ∧ ∀ l ∈ L, l.length ≤ 140 := by
  unfold greatR at h
  rw [Bool.or_eq_false_iff] at h
  have h2 := List.any_eq_false.1 h.2
  exact ⟨by have := of_decide_eq_false h.1; omega, fun l hl => (sm_of (by simpa using h2 l hl)).1, fun l hl => (sm_of (by simpa using h2 l hl)).2⟩

set_option maxHeartbeats 2000000 in
set_option maxRecDepth 100000 in
theorem greatR_any (A : Option Addr) (n c : Nat) (L : List (List C)) (w : World) (hr : RdR w A n L) :
    Calls Tryd.prog 21 #[.slice A n c] w fun e w' => e = .returned (.int .i64 (if greatR L = true then 1 else 0)) ∧ w = w' := by
  have hl : L.length = n := hr.1
  by_cases h10 : 10 < n
  · have hz : (10 : Int) < (n : Int) := by omega
    have e : greatR L = true := by unfold greatR; rw [hl, decide_eq_true h10]; rfl
    rw [e, if_pos rfl]
    go_enter Tryd.func21, Tryd.ntmps21
    go_wp2
    go_ret
    exact ⟨rfl, rfl⟩
  · have hz : ¬ (10 : Int) < (n : Int) := by omega
    have hg : greatR L = L.any great := by unfold greatR; rw [hl, decide_eq_false h10]; rfl
    rw [hg]
    obtain ⟨R, hR⟩ : ∃ R, L.any great = R := ⟨_, rfl⟩
    rw [hR]
    have HRR := Lib.hid hR
    have HR := Lib.hid hr
    have HL := Lib.hid hl
    have hn : (n : Int) ≤ 10 := by omega
    clear hg hr hl hR
    go_enter Tryd.func21, Tryd.ntmps21
    go_wp2
    go_loopg [3] (n + 1) (fun gk v3 wr => ∃ k : Nat, gk + k = n + 1 ∧ k ≤ n ∧ v3 = .int .i64 (k : Int) ∧ w = wr ∧ Aside (∀ (j : Nat) x, j < k → L[j]? = some x → great x = false))
    case atStart => exact ⟨0, by omega, Nat.zero_le _, rfl, rfl, fun j x hj => by omega⟩
    case round =>
      obtain ⟨k, hg, hkn, rfl, rfl, hA⟩ := hrel
      by_cases hlt : k < n
      · obtain ⟨g', rfl⟩ : ∃ g', gk = g' + 1 := ⟨gk - 1, by omega⟩
        have hz : (k : Int) < (n : Int) := by omega
        have hz0 : (0 : Int) ≤ (k : Int) := by omega
        obtain ⟨l, hx⟩ : ∃ l, L[k]? = some l := ⟨L[k]'(by rw [HL.out]; exact hlt), List.getElem?_eq_getElem _⟩
        obtain ⟨b, off, A', m, c', rfl, _, hc, hrd, _⟩ := HR.out.at k l hx
        have CG := Lib.hid (great_any A' m c' l w hrd)
        have HX := Lib.hid hx
        clear hx hrd
        cases hq : great l
        · rw [hq] at CG
          have HQ := Lib.hid hq
          clear hq
          go_wp2_with fail
          refine CG.out.mono ?_
          rintro e w0 ⟨rfl, rfl⟩
          go_wp2
          go_roundg g'
          case measure => omega
          case rel =>
            refine ⟨k + 1, by omega, by omega, by go_num, rfl, fun j y hj hy => ?_⟩
            by_cases e : j = k
            · subst e
              rw [HX.out] at hy
              injection hy with hy
              rw [← hy]; exact HQ.out
            · exact hA.out j y (by omega) hy
        · rw [hq] at CG
          have hRt : R = true := by rw [← HRR.out]; exact List.any_eq_true.2 ⟨l, List.mem_of_getElem? HX.out, hq⟩
          subst hRt
          clear hq
          go_wp2_with fail
          refine CG.out.mono ?_
          rintro e w0 ⟨rfl, rfl⟩
          go_wp2
          go_ret
          exact ⟨ret_int (by simp), rfl⟩
      · have hz : ¬ (k : Int) < (n : Int) := by omega
        have hq : k = n := by omega
        subst hq
        have hRf : R = false := by
          rw [← HRR.out, List.any_eq_false]
          intro x hx
          obtain ⟨j, hj⟩ := List.getElem?_of_mem hx
          have hjl := (List.getElem?_eq_some_iff.1 hj).1
          have := hA.out j x (by rw [← HL.out]; exact hjl) hj
          simp [this]
        subst hRf
        go_wp2
        go_ret
        exact ⟨ret_int (by simp), rfl⟩

set_option maxHeartbeats 2000000 in
set_option maxRecDepth 100000 in
theorem right_any (W H : Int) (A : Option Addr) (n c : Nat) (L : List (List C)) (w : World) (hr : RdR w A n L) (hmax : n ≤ 9223372036854775807) :
    Calls Tryd.prog 27 #[.agg #[.int .i64 W, .int .i64 H, .slice A n c]] w fun e w' => e = .returned (.int .i64 (if greatR L = true ∨ gE W H L ≠ 0 then 0 else 1)) ∧ Below w.heap.size w w' := by
  have bV := (Below.refl w.heap.size w).alloc (Nat.le_refl _) (.cells #[.int .i64 W, .int .i64 H, .slice A n c] 35)
  have CG := Lib.hid (greatR_any A n c L _ (hr.below bV))
  have HV := Lib.hid bV
  cases hg : greatR L
  · rw [hg, if_neg (by decide)] at CG
    have CC := Lib.hid (rcheck_any W H A n c L _ (hr.below bV) hmax (greatR_false hg).2.1)
    obtain ⟨q, hq⟩ : ∃ q, gE W H L = q := ⟨_, rfl⟩
    rw [hq] at CC ⊢
    clear hg hr bV hq
    by_cases h0 : q = 0
    · subst h0
      rw [if_neg (by simp)]
      go_enter Tryd.func27, Tryd.ntmps27
      go_wp2_with fail
      refine CG.out.mono ?_
      rintro e w0 ⟨rfl, rfl⟩
      go_wp2_with fail
      refine CC.out.mono ?_
      rintro e w1 ⟨rfl, b1⟩
      have B1 := Lib.hid (HV.out.trans (b1.mono HV.out.size))
      clear b1
      go_wp2
      go_ret
      exact ⟨rfl, B1.out⟩
    · have hqb : (((q : Nat) : Int) != 0) = true := nat_ne h0
      rw [if_pos (.inr h0)]
      go_enter Tryd.func27, Tryd.ntmps27
      go_wp2_with fail
      refine CG.out.mono ?_
      rintro e w0 ⟨rfl, rfl⟩
      go_wp2_with fail
      refine CC.out.mono ?_
      rintro e w1 ⟨rfl, b1⟩
      have B1 := Lib.hid (HV.out.trans (b1.mono HV.out.size))
      clear b1
      go_wp2
      go_ret
      exact ⟨rfl, B1.out⟩
  · rw [hg, if_pos rfl] at CG
    rw [if_pos (.inl rfl)]
    clear hg hr bV
    go_enter Tryd.func27, Tryd.ntmps27
    go_wp2_with fail
    refine CG.out.mono ?_
    rintro e w0 ⟨rfl, rfl⟩
    go_wp2
    go_ret
    exact ⟨rfl, HV.out⟩

end Go.Proofs.YtgmgnlgolhjhmaaDoor
