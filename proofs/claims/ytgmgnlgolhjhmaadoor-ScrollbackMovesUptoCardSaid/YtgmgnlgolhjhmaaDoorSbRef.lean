/-
  The document's own Great, Trim, Push and Line of layer 12; copies and joins of rows whose runs are known ahead.
-/
import Derived.Test.YtgmgnlgolhjhmaaDoorSbTrim
import Derived.Test.YtgmgnlgolhjhmaaDoorGrRef
namespace Go.Proofs.YtgmgnlgolhjhmaaDoor
open Go.RowKit Go.Shelf Cr Gd

theorem GR.empty (w : World) : GR w (w.alloc (.cells #[] 25)) (.slice (some ⟨w.heap.size, 0, none⟩) 0 0) [] :=
  ⟨[], ⟨rfl, .inr ⟨w.heap.size, 0, #[], rfl, Nat.le_refl _, heap_alloc_new w _, Nat.le_refl _, by unfold maxLen; omega, rfl, rfl⟩⟩, (Below.refl _ _).alloc (Nat.le_refl _) _, fun j h l hj => by simp at hj⟩

/-- append([]Cell{}, row...): any row. -/
theorem copy_run (A : Option Addr) (m c : Nat) (x : List C) (w : World) (hm : m ≤ 1000) (hnil : A = none → m = 0 ∧ c = 0) (hr : Rd w A m x) :
    ∃ (g c' : Nat) (w' : World), (∀ ty, (Builtin.append_ #[25, 25] ty #[.slice (some ⟨w.heap.size, 0, none⟩) 0 0, .slice A m c]).run Tryd.prog (w.alloc (.cells #[] 46)) = .ok (.slice (some ⟨g, 0, none⟩) m c') w') ∧ Own w w' (.slice (some ⟨g, 0, none⟩) m c') x := by
  have hl : x.length = m := hr.1
  have hO := Own.empty w
  have hb := hO.2
  rcases Nat.eq_zero_or_pos m with h0 | h0
  · subst h0
    obtain rfl : x = [] := List.eq_nil_of_length_eq_zero hl
    cases A with
    | none =>
      obtain ⟨_, rfl⟩ := hnil rfl
      obtain ⟨i0, hi, hz0, hz1, hz2⟩ := info_parts Tryd.infoCell
      have hrun := run_append_owned_none (P := Tryd.prog) (w := w.alloc (.cells #[] 46)) w.heap.size 25 25 46 i0 5 Tryd.underlying25 hi _ _ _ hO.1
      exact ⟨_, _, _, fun ty => hrun, hO⟩
    | some ad =>
      obtain ⟨g, c', w', hrun, h⟩ := run_joinE 25 w _ _ _ _ [] ad c hO (by simp)
      exact ⟨g, c', w', fun ty => hrun, h⟩
  · obtain ⟨b, off, rfl⟩ := hr.addr h0
    obtain ⟨v', w', hrun, hO', hn⟩ := run_joinO 25 w _ _ [] x b off m c hO (hr.alloc _) (by simp; omega)
    rw [List.nil_append] at hO'
    rcases hO'.slice with ⟨e, _⟩ | ⟨g, cap, e, _⟩
    · exact absurd e (hn (fun e => by cases e))
    · subst e
      rw [hl] at hrun hO'
      exact ⟨g, cap, w', fun ty => hrun, hO'⟩

/-- out = append(out, append([]Cell{}, row...)). -/
theorem copy_row {w0 w : World} {A1 : Option Addr} {k c1 : Nat} {LL : List (List C)} (hG : GR w0 w (.slice A1 k c1) LL) (hk : LL.length = k) (hk2 : k ≤ 10000) (A : Option Addr) (m c : Nat) (x : List C) (hm : m ≤ 1000) (hnil : A = none → m = 0 ∧ c = 0) (hr : Rd w A m x) :
    ∃ (g c2 : Nat) (w2 : World) (A3 : Option Addr) (c3 : Nat) (w3 : World), (∀ ty, (Builtin.append_ #[25, 25] ty #[.slice (some ⟨w.heap.size, 0, none⟩) 0 0, .slice A m c]).run Tryd.prog (w.alloc (.cells #[] 46)) = .ok (.slice (some ⟨g, 0, none⟩) m c2) w2) ∧
      (∀ ty, (Builtin.append_ #[22, 22] ty #[.slice A1 k c1, .slice (some ⟨w2.heap.size, 0, none⟩) 1 1]).run Tryd.prog (w2.alloc (.cells #[.slice (some ⟨g, 0, none⟩) m c2] 25)) = .ok (.slice A3 (k + 1) c3) w3) ∧
      GR w0 w3 (.slice A3 (k + 1) c3) (LL ++ [x]) := by
  obtain ⟨g, c2, w2, hrun, hO⟩ := copy_run A m c x w hm hnil hr
  have b2 := hO.2
  have G2 := hG.below b2
  have hin := GivesIn hO.mine.gives.1 hO.mine.gives.2.1 hm
  have hoff := Off.fresh (m := m) (c := c2) hG hO.mine.fr
  have hy := RdQ.one hin hoff
  have Gx := G2.alloc (.cells #[.slice (some ⟨g, 0, none⟩) m c2] 25)
  obtain ⟨A3, c3, w3, hrun3, hG3, _⟩ := run_joinR 22 w0 _ _ LL [x] _ 1 1 Gx hy (fun e => by cases e) (by simp; omega)
  have hll : LL.length + ([x] : List (List C)).length = k + 1 := by rw [hk]; rfl
  rw [hll] at hrun3 hG3
  exact ⟨g, c2, w2, A3, c3, w3, hrun, fun ty => hrun3, hG3⟩

/-- append(append([][]Cell{}, b...), rows...). -/
theorem both_rows (A A2 : Option Addr) (n c n2 c2 : Nat) (L M : List (List C)) (w : World) (hn : n + n2 ≤ 10000) (hnil : A = none → n = 0 ∧ c = 0) (hnil2 : A2 = none → n2 = 0 ∧ c2 = 0) (hr : RdR w A n L) (hr2 : RdR w A2 n2 M) :
    ∃ (A3 : Option Addr) (c3 : Nat) (w3 : World) (A4 : Option Addr) (c4 : Nat) (w4 : World), (∀ ty, (Builtin.append_ #[22, 22] ty #[.slice (some ⟨w.heap.size, 0, none⟩) 0 0, .slice A n c]).run Tryd.prog (w.alloc (.cells #[] 25)) = .ok (.slice A3 n c3) w3) ∧
      (∀ ty, (Builtin.append_ #[22, 22] ty #[.slice A3 n c3, .slice A2 n2 c2]).run Tryd.prog w3 = .ok (.slice A4 (n + n2) c4) w4) ∧ GR w w4 (.slice A4 (n + n2) c4) (L ++ M) := by
  have hl : L.length = n := hr.1
  have hl2 : M.length = n2 := hr2.1
  have G0 := GR.empty w
  obtain ⟨A3, c3, w3, h3, G3, _⟩ := run_joinR 22 w _ _ [] L A n c G0 (hr.old G0) hnil (by simp; omega)
  rw [List.nil_append] at G3
  rw [List.length_nil, Nat.zero_add, hl] at h3 G3
  obtain ⟨A4, c4, w4, h4, G4, _⟩ := run_joinR 22 w _ _ L M A2 n2 c2 G3 (hr2.old G3) hnil2 (by omega)
  rw [hl, hl2] at h4 G4
  exact ⟨A3, c3, w3, A4, c4, w4, fun ty => h3, fun ty => h4, G4⟩

/-- Too great for the statements of layer 12. -/
def greatS (L : List (List C)) : Bool := decide (12 < L.length) || L.any great
theorem greatS_false {L : List (List C)} (h : greatS L = false) : L.length ≤ 12 ∧ SmR L ∧ ∀ l ∈ L, l.length ≤ 140 := by
  unfold greatS at h
  rw [Bool.or_eq_false_iff] at h
  have h2 := List.any_eq_false.1 h.2
  exact ⟨by have := of_decide_eq_false h.1; omega, fun l hl => (sm_of (by simpa using h2 l hl)).1, fun l hl => (sm_of (by simpa using h2 l hl)).2⟩

set_option maxHeartbeats 2000000 in
set_option maxRecDepth 100000 in
theorem greatS_any (A : Option Addr) (n c : Nat) (L : List (List C)) (w : World) (hr : RdR w A n L) :
    Calls Tryd.prog 11 #[.slice A n c] w fun e w' => e = .returned (.int .i64 (if greatS L = true then 1 else 0)) ∧ w = w' := by
  have hl : L.length = n := hr.1
  by_cases h12 : 12 < n
  · have hz : (12 : Int) < (n : Int) := by omega
    have e : greatS L = true := by unfold greatS; rw [hl, decide_eq_true h12]; rfl
    rw [e, if_pos rfl]
    go_enter Tryd.func11, Tryd.ntmps11
    go_wp2
    go_ret
    exact ⟨rfl, rfl⟩
  · have hz : ¬ (12 : Int) < (n : Int) := by omega
    have hg : greatS L = L.any great := by unfold greatS; rw [hl, decide_eq_false h12]; rfl
    rw [hg]
    obtain ⟨R, hR⟩ : ∃ R, L.any great = R := ⟨_, rfl⟩
    rw [hR]
    have HRR := Lib.hid hR
    have HR := Lib.hid hr
    have HL := Lib.hid hl
    have hn : (n : Int) ≤ 12 := by omega
    clear hg hr hl hR
    go_enter Tryd.func11, Tryd.ntmps11
    go_wp2
    go_loopg [3] (n + 1) (fun gk v3 wr => ∃ k : Nat, gk + k = n + 1 ∧ k ≤ n ∧ v3 = .int .i64 (k : Int) ∧ w = wr ∧ Aside (∀ (j : Nat) x, j < k → L[j]? = some x → great x = false))
    case atStart => exact ⟨0, by omega, Nat.zero_le _, rfl, rfl, fun j x hj => by omega⟩
    case round =>
      obtain ⟨k, hg, hkn, rfl, rfl, hA⟩ := hrel
      by_cases hlt : k < n
      · obtain ⟨g', rfl⟩ : ∃ g', gk = g' + 1 := ⟨gk - 1, by omega⟩
        have hz : (k : Int) < (n : Int) := by omega
        have hz0 : (0 : Int) ≤ (k : Int) := by omega
        obtain ⟨l, hx⟩ : ∃ l, L[k]? = some l := ⟨L[k]'(by rw [HL.out]; exact hlt), List.getElem?_eq_getElem _⟩
        obtain ⟨b, off, A', m, c', rfl, _, hc, hrd, _⟩ := HR.out.at k l hx
        have CG := Lib.hid (great_any A' m c' l w hrd)
        have HX := Lib.hid hx
        clear hx hrd
        cases hq : great l
        · rw [hq] at CG
          have HQ := Lib.hid hq
          clear hq
          go_wp2_with fail
          refine CG.out.mono ?_
          rintro e w0 ⟨rfl, rfl⟩
          go_wp2
          go_roundg g'
          case measure => omega
          case rel =>
            refine ⟨k + 1, by omega, by omega, by go_num, rfl, fun j y hj hy => ?_⟩
            by_cases e : j = k
            · subst e
              rw [HX.out] at hy
              injection hy with hy
              rw [← hy]; exact HQ.out
            · exact hA.out j y (by omega) hy
        · rw [hq] at CG
          have hRt : R = true := by rw [← HRR.out]; exact List.any_eq_true.2 ⟨l, List.mem_of_getElem? HX.out, hq⟩
          subst hRt
          clear hq
          go_wp2_with fail
          refine CG.out.mono ?_
          rintro e w0 ⟨rfl, rfl⟩
          go_wp2
          go_ret
          exact ⟨ret_int (by simp), rfl⟩
      · have hz : ¬ (k : Int) < (n : Int) := by omega
        have hq : k = n := by omega
        subst hq
        have hRf : R = false := by
          rw [← HRR.out, List.any_eq_false]
          intro x hx
          obtain ⟨j, hj⟩ := List.getElem?_of_mem hx
          have hjl := (List.getElem?_eq_some_iff.1 hj).1
          have := hA.out j x (by rw [← HL.out]; exact hjl) hj
          simp [this]
        subst hRf
        go_wp2
        go_ret
        exact ⟨ret_int (by simp), rfl⟩


set_option maxHeartbeats 4000000 in
set_option maxRecDepth 100000 in
theorem rtrim_any (A : Option Addr) (n c : Nat) (L : List (List C)) (most : Int) (hn : n ≤ 1000) (hmost : most ≤ 9223372036854775807) (w : World) (hr : RdR w A n L) (hz : Sz L) :
    Calls Tryd.prog 20 #[.slice A n c, .int .i64 most] w fun e w' => ∃ A' c', e = .returned (.slice A' (Sb.trim L most).length c') ∧ GR w w' (.slice A' (Sb.trim L most).length c') (Sb.trim L most) := by
  have hl : L.length = n := hr.1
  obtain ⟨m, hm⟩ : ∃ m, min most.toNat n = m := ⟨_, rfl⟩
  obtain ⟨i, hi⟩ : ∃ i, n - m = i := ⟨_, rfl⟩
  have htr : Sb.trim L most = L.drop i := by rw [trim_nat L most m (by omega)]; congr 1; omega
  have htl : (L.drop i).length = m := by rw [List.length_drop]; omega
  rw [htr, htl]
  obtain ⟨T, hT⟩ : ∃ T, L.drop i = T := ⟨_, rfl⟩
  rw [hT] at htl ⊢
  -- what has come behind k rows
  have hst : ∀ (k : Nat) (x : List C), L[k]? = some x → (L.take (k + 1)).drop i = if i ≤ k then (L.take k).drop i ++ [x] else (L.take k).drop i := fun k x hx => by
    have hk : k < L.length := (List.getElem?_eq_some_iff.1 hx).1
    rw [List.take_add_one, hx, List.drop_append]
    have e : (List.take k L).length = k := by rw [List.length_take]; omega
    rw [e]
    split
    · rw [show i - k = 0 by omega]; rfl
    · rw [show i - k = (i - k - 1) + 1 by omega]; simp
  have HST := Lib.hid hst
  have HR := Lib.hid hr
  have HZ := Lib.hid hz
  have HL := Lib.hid hl
  have HT := Lib.hid hT
  have HTL := Lib.hid htl
  have HI : Hid (0 < most → (i : Int) = max ((n : Int) - most) 0) := Lib.hid (by omega)
  have HI0 : Hid (¬ 0 < most → i = n) := Lib.hid (by omega)
  have HLE : Hid (∀ k, ((L.take k).drop i).length ≤ 1000) := Lib.hid (fun k => by rw [List.length_drop, List.length_take]; omega)
  have hnz : (n : Int) ≤ 1000 := by omega
  have hnz0 : (0 : Int) ≤ (n : Int) := by omega
  clear hst hr hz hl hT htl htr hm hi
  go_enter Tryd.func20, Tryd.ntmps20
  go_wp2
  go_loopg [5, 6] (n + 1) (fun gk v5 v6 wr => ∃ k : Nat, gk + k = n + 1 ∧ k ≤ n ∧ v6 = .int .i64 (k : Int) ∧ ∃ (A1 : Option Addr) (m1 c1 : Nat), v5 = .slice A1 m1 c1 ∧ Aside (((L.take k).drop i).length = m1 ∧ GR w wr (.slice A1 m1 c1) ((L.take k).drop i)))
  case atStart => exact ⟨0, by omega, Nat.zero_le _, rfl, _, 0, 0, rfl, by simp, by simpa using GR.empty w⟩
  case round =>
    obtain ⟨k, hg, hkn, rfl, A1, m1, c1, rfl, hA⟩ := hrel
    by_cases hlt : k < n
    · obtain ⟨g', rfl⟩ : ∃ g', gk = g' + 1 := ⟨gk - 1, by omega⟩
      have hz : (k : Int) < (n : Int) := by omega
      have hz0 : (0 : Int) ≤ (k : Int) := by omega
      obtain ⟨x, hx⟩ : ∃ x, L[k]? = some x := ⟨L[k]'(by rw [HL.out]; exact hlt), List.getElem?_eq_getElem _⟩
      have HA := Lib.hid hA.out
      have HX := Lib.hid (HST.out k x hx)
      by_cases hmp : 0 < most
      · have hI := HI.out hmp
        have hd : decide (0 < most) = true := decide_eq_true hmp
        by_cases hge : (n : Int) - most ≤ (k : Int)
        · have hd2 : decide ((n : Int) - most ≤ (k : Int)) = true := decide_eq_true hge
          have hik : i ≤ k := by omega
          have hX := HX.out
          rw [if_pos hik] at hX
          have HX2 := Lib.hid hX
          obtain ⟨b, off, A', mm, cc, rfl, _, hc, hrd, hmc, hnl, _⟩ := (HR.out.below HA.out.2.bel).at k x hx
          have hmm : mm ≤ 1000 := by rw [← hrd.1]; exact HZ.out x (List.mem_of_getElem? hx)
          have hm1 := HLE.out k
          rw [HA.out.1] at hm1
          obtain ⟨g, c2, w2, A3, c3, w3, hrun1, hrun2, hG3⟩ := copy_row HA.out.2 HA.out.1 (by omega) A' mm cc x hmm hnl hrd
          have HG3 := Lib.hid hG3
          have HR1 := Lib.hid hrun1
          have HR2 := Lib.hid hrun2
          clear hX hx hA hrd hI hG3 hrun1 hrun2
          go_wp2_with (at_builtin; first | refine Lib.wpList_append_run _ rfl (.tmp 25) (.tmp 29) _ _ rfl _ _ rfl rfl _ _ (HR1.out _) ?_ | refine Lib.wpList_append_run _ rfl (.tmp 24) (.tmp 31) _ _ rfl _ _ rfl rfl _ _ (HR2.out _) ?_)
          go_roundg g'
          case measure => omega
          case rel =>
            refine ⟨k + 1, by omega, by omega, by go_num, _, _, _, rfl, ?_, ?_⟩
            · rw [HX2.out, List.length_append, HA.out.1]; rfl
            · rw [HX2.out]; exact HG3.out
        · have hd2 : decide ((n : Int) - most ≤ (k : Int)) = false := decide_eq_false hge
          have hik : ¬ i ≤ k := by omega
          have hX := HX.out
          rw [if_neg hik] at hX
          have HX2 := Lib.hid hX
          clear hX hx hA hI
          go_wp2
          go_roundg g'
          case measure => omega
          case rel =>
            refine ⟨k + 1, by omega, by omega, by go_num, _, _, _, rfl, ?_, ?_⟩
            · rw [HX2.out]; exact HA.out.1
            · rw [HX2.out]; exact HA.out.2
      · have hd : decide (0 < most) = false := decide_eq_false hmp
        have hik : ¬ i ≤ k := by have := HI0.out (by omega); omega
        have hX := HX.out
        rw [if_neg hik] at hX
        have HX2 := Lib.hid hX
        clear hX hx hA
        go_wp2
        go_roundg g'
        case measure => omega
        case rel =>
          refine ⟨k + 1, by omega, by omega, by go_num, _, _, _, rfl, ?_, ?_⟩
          · rw [HX2.out]; exact HA.out.1
          · rw [HX2.out]; exact HA.out.2
    · have hz : ¬ (k : Int) < (n : Int) := by omega
      have hq : k = n := by omega
      subst hq
      have hh := hA.out
      rw [List.take_of_length_le (by rw [HL.out]; exact Nat.le_refl _), HT.out, HTL.out] at hh
      have HH := Lib.hid hh
      clear hA hh
      go_wp2
      go_ret
      obtain ⟨h1, h2⟩ := HH.out
      subst h1
      exact ⟨_, _, rfl, h2⟩

set_option maxHeartbeats 2000000 in
set_option maxRecDepth 100000 in
theorem rpush_any (A A2 : Option Addr) (n c n2 c2 : Nat) (L M : List (List C)) (hn : n + n2 ≤ 1000) (hnil : A = none → n = 0 ∧ c = 0) (hnil2 : A2 = none → n2 = 0 ∧ c2 = 0) (w : World) (hr : RdR w A n L) (hr2 : RdR w A2 n2 M) (hz : Sz L) (hz2 : Sz M) :
    Calls Tryd.prog 17 #[.slice A n c, .slice A2 n2 c2] w fun e w' => ∃ A' c', e = .returned (.slice A' (Sb.push L M).length c') ∧ GR w w' (.slice A' (Sb.push L M).length c') (Sb.push L M) := by
  obtain ⟨A3, c3, w3, A4, c4, w4, hrun1, hrun2, hG4⟩ := both_rows A A2 n c n2 c2 L M w (by omega) hnil hnil2 hr hr2
  have HR1 := Lib.hid hrun1
  have HR2 := Lib.hid hrun2
  have CT := Lib.hid (rtrim_any A4 (n + n2) c4 (L ++ M) 500 hn (by decide) w4 hG4.rd.1 (Sz.app hz hz2))
  have HB := Lib.hid hG4.bel
  obtain ⟨N, hN⟩ : ∃ N, n + n2 = N := ⟨_, rfl⟩
  rw [hN] at CT HR2
  have hpush : Sb.push L M = Sb.trim (L ++ M) 500 := rfl
  rw [hpush]
  generalize Sb.trim (L ++ M) 500 = T at CT ⊢
  obtain ⟨K, hK⟩ : ∃ K, T.length = K := ⟨_, rfl⟩
  rw [hK] at CT ⊢
  clear hrun1 hrun2 hG4 hr hr2 hz hz2 hN hK hpush hnil hnil2 hn
  go_enter Tryd.func17, Tryd.ntmps17
  go_wp2_with (at_builtin; first | refine Lib.wpList_append_run _ rfl (.tmp 5) (.tmp 6) _ _ rfl _ _ rfl rfl _ _ (HR1.out _) ?_ | refine Lib.wpList_append_run _ rfl (.tmp 7) (.tmp 8) _ _ rfl _ _ rfl rfl _ _ (HR2.out _) ?_)
  refine CT.out.mono ?_
  rintro e w5 ⟨A5, c5, rfl, hg5⟩
  have HG5 := Lib.hid (hg5.rebase HB.out)
  clear hg5
  go_wp2
  go_ret
  exact ⟨_, _, rfl, HG5.out⟩

set_option maxHeartbeats 1000000 in
set_option maxRecDepth 100000 in
theorem rline_any (A : Option Addr) (n c : Nat) (L : List (List C)) (back : Int) (hn : n ≤ 1000) (w : World) (hr : RdR w A n L) (hz : Sz L) :
    Calls Tryd.prog 14 #[.slice A n c, .int .i64 back] w fun e w' => ∃ A' m c', e = .returned (.tuple #[.slice A' m c', .int .i64 (lineE L back : Nat)]) ∧ GivesC w w' A' m c' (lineL L back) := by
  have hl : L.length = n := hr.1
  have hnz : (n : Int) ≤ 1000 := by omega
  by_cases hb : 0 ≤ back ∧ back < (n : Int)
  · have e1 : lineE L back = 0 := by unfold lineE; rw [hl, if_pos hb]
    obtain ⟨k, rfl⟩ : ∃ k : Nat, back = (k : Int) := ⟨back.toNat, by omega⟩
    obtain ⟨j, hj⟩ : ∃ j, n - 1 - k = j := ⟨_, rfl⟩
    have hx := lineL_at (L := L) (k := k) (by omega)
    rw [hl, hj] at hx
    obtain ⟨b, off, A', m, cc, rfl, _, hc, hrd, hmc, hnl, _⟩ := hr.at j _ hx
    have hm : m ≤ 1000 := by rw [← hrd.1]; exact lineL_sz hz _
    obtain ⟨g, c2, w2, hrun, hO⟩ := copy_run A' m cc _ w hm hnl hrd
    have hcx : (w.alloc (.cells #[] 46)).cell? ⟨b, off + j, none⟩ = some (.slice A' m cc) := ((Below.refl _ _).alloc (Nat.le_refl _) _).cell (p := ⟨b, off + j, none⟩) (World.block_lt_of_cell? w _ hc) |>.trans hc
    have HRUN := Lib.hid hrun
    have HO := Lib.hid hO
    rw [e1]
    generalize lineL L (k : Int) = l at HO
    have z1 : ¬ (k : Int) < 0 := by omega
    have z2 : ¬ (n : Int) ≤ (k : Int) := by omega
    have z3 : (n : Int) - 1 - (k : Int) = (j : Int) := by omega
    have z4 : (j : Int) < (n : Int) := by omega
    have z5 : (0 : Int) ≤ (j : Int) := by omega
    have z6 : (0 : Int) ≤ (k : Int) := by omega
    clear hx hrd hj hl hb e1 hr hz hnl hrun hO
    go_enter Tryd.func14, Tryd.ntmps14
    go_wp2_with (at_builtin; refine Lib.wpList_append_run _ rfl (.tmp 14) (.tmp 22) _ _ rfl _ _ rfl rfl _ _ (HRUN.out _) ?_)
    go_ret2
    exact ⟨_, _, _, rfl, HO.out.mine.gives⟩
  · have e1 : lineE L back = 2 := by unfold lineE; rw [hl, if_neg hb]
    have e2 : lineL L back = [] := by unfold lineL; rw [hl, if_neg hb]
    rw [e1, e2]
    rcases (by omega : back < 0 ∨ (¬ back < 0 ∧ (n : Int) ≤ back)) with h1 | ⟨h1, h2⟩
    all_goals
      clear hb hr hz e1 e2 hl
      go_enter Tryd.func14, Tryd.ntmps14
      go_wp2
      go_ret2
      exact ⟨none, 0, 0, rfl, gives_nil (Below.refl _ _)⟩

end Go.Proofs.YtgmgnlgolhjhmaaDoor
