/-
  What Same and Great of the document's own answers return.
-/
import Derived.Test.YtcljmmadimldlaaDoorCrFuncs
import Derived.Test.YtcljmmadimldlaaDoorCrEq
namespace Go.Proofs.YtcljmmadimldlaaDoor
open Go.RowKit Go.Shelf Cr

def great (l : List C) : Bool := decide (140 < l.length) || l.any (fun c => decide (40 < c.t.size))
theorem great_false {l : List C} (h : great l = false) : l.length ≤ 140 ∧ ∀ c ∈ l, c.t.size ≤ 40 := by
  unfold great at h
  rw [Bool.or_eq_false_iff] at h
  refine ⟨by have := of_decide_eq_false h.1; omega, fun c hc => ?_⟩
  have := List.any_eq_false.1 h.2 c hc
  simp at this
  omega

set_option maxHeartbeats 2000000 in
set_option maxRecDepth 100000 in
theorem great_any (A : Option Addr) (n c : Nat) (l : List C) (w : World) (hr : Rd w A n l) :
    Calls Tryd.prog 12 #[.slice A n c] w fun e w' => e = .returned (.bool (great l)) ∧ w = w' := by
  have hl : l.length = n := hr.1
  by_cases h140 : 140 < n
  · have hz : (140 : Int) < (n : Int) := by omega
    have e : great l = true := by unfold great; rw [hl, decide_eq_true h140]; rfl
    rw [e]
    go_enter Tryd.func12, Tryd.ntmps12
    go_wp2
    go_ret
    exact ⟨rfl, rfl⟩
  · have hz : ¬ (140 : Int) < (n : Int) := by omega
    have hg : great l = l.any (fun c => decide (40 < c.t.size)) := by unfold great; rw [hl, decide_eq_false h140]; rfl
    rw [hg]
    have HR := Lib.hid hr
    have HL := Lib.hid hl
    have hn : (n : Int) ≤ 140 := by omega
    clear hg hr hl
    go_enter Tryd.func12, Tryd.ntmps12
    go_wp2
    go_loopg [3] (n + 1) (fun gk v3 wr => ∃ k : Nat, gk + k = n + 1 ∧ k ≤ n ∧ v3 = .int .i64 (k : Int) ∧ w = wr ∧ Aside (∀ (j : Nat) x, j < k → l[j]? = some x → x.t.size ≤ 40))
    case atStart => exact ⟨0, by omega, Nat.zero_le _, rfl, rfl, fun j x hj => by omega⟩
    case round =>
      obtain ⟨k, hg, hkn, rfl, rfl, hA⟩ := hrel
      by_cases hlt : k < n
      · obtain ⟨g', rfl⟩ : ∃ g', gk = g' + 1 := ⟨gk - 1, by omega⟩
        have hz : (k : Int) < (n : Int) := by omega
        have hz0 : (0 : Int) ≤ (k : Int) := by omega
        have hkl : k < l.length := by rw [HL.out]; exact hlt
        obtain ⟨x, hx⟩ : ∃ x, l[k]? = some x := ⟨l[k], List.getElem?_eq_getElem hkl⟩
        obtain ⟨b, off, rfl, _, p0, _⟩ := HR.out.at k x hx
        have HX := Lib.hid hx
        clear hx
        by_cases h40 : 40 < x.t.size
        · have h40z : (40 : Int) < (x.t.size : Int) := by omega
          go_wp2
          go_ret
          refine ⟨ret_bool ?_, rfl⟩
          exact (List.any_eq_true.2 ⟨x, List.mem_of_getElem? HX.out, decide_eq_true h40⟩).symm
        · have h40z : ¬ (40 : Int) < (x.t.size : Int) := by omega
          go_wp2
          go_roundg g'
          case measure => omega
          case rel =>
            refine ⟨k + 1, by omega, by omega, by go_num, rfl, fun j y hj hy => ?_⟩
            by_cases e : j = k
            · subst e
              rw [HX.out] at hy
              injection hy with hy
              rw [← hy]; omega
            · exact hA.out j y (by omega) hy
      · have hz : ¬ (k : Int) < (n : Int) := by omega
        have hq : k = n := by omega
        subst hq
        go_wp2
        go_ret
        refine ⟨ret_bool ?_, rfl⟩
        symm
        rw [List.any_eq_false]
        intro x hx
        obtain ⟨j, hj⟩ := List.getElem?_of_mem hx
        have hjl : j < l.length := by
          rcases Nat.lt_or_ge j l.length with h | h
          · exact h
          · rw [List.getElem?_eq_none h] at hj; cases hj
        have := hA.out j x (by rw [← HL.out]; exact hjl) hj
        simp
        omega

set_option maxHeartbeats 2000000 in
set_option maxRecDepth 100000 in
theorem same_any (A1 A2 : Option Addr) (n1 n2 c1 c2 : Nat) (l m : List C) (w : World) (h1 : Rd w A1 n1 l) (h2 : Rd w A2 n2 m) (hn1 : n1 ≤ 1000) (hn2 : n2 ≤ 1000) :
    Calls Tryd.prog 18 #[.slice A1 n1 c1, .slice A2 n2 c2] w fun e w' => e = .returned (.bool (decide (l = m))) ∧ Below w.heap.size w w' := by
  have hl : l.length = n1 := h1.1
  have hm : m.length = n2 := h2.1
  by_cases hne : n1 = n2
  · subst hne
    have H1 := Lib.hid h1
    have H2 := Lib.hid h2
    have HL := Lib.hid hl
    have HM := Lib.hid hm
    have hnz : (n1 : Int) ≤ 1000 := by omega
    clear h1 h2 hl hm
    go_enter Tryd.func18, Tryd.ntmps18
    go_wp2
    go_loopg [5] (n1 + 1) (fun gk v5 wr => ∃ k : Nat, gk + k = n1 + 1 ∧ k ≤ n1 ∧ v5 = .int .i64 (k : Int) ∧ Aside (Below w.heap.size w wr ∧ ∀ j, j < k → l[j]? = m[j]?))
    case atStart => exact ⟨0, by omega, Nat.zero_le _, rfl, Below.refl _ _, fun j hj => by omega⟩
    case round =>
      obtain ⟨k, hg, hkn, rfl, hA⟩ := hrel
      by_cases hlt : k < n1
      · obtain ⟨gf, rfl⟩ : ∃ gf, gk = gf + 1 := ⟨gk - 1, by omega⟩
        have hz : (k : Int) < (n1 : Int) := by omega
        have hz0 : (0 : Int) ≤ (k : Int) := by omega
        obtain ⟨x, hx⟩ : ∃ x, l[k]? = some x := ⟨l[k]'(by rw [HL.out]; exact hlt), List.getElem?_eq_getElem _⟩
        obtain ⟨y, hy⟩ : ∃ y, m[k]? = some y := ⟨m[k]'(by rw [HM.out]; exact hlt), List.getElem?_eq_getElem _⟩
        obtain ⟨b, off, rfl, _, p0, p1, p2, p3, p4⟩ := (H1.out.below hA.out.1).at k x hx
        obtain ⟨b', off', rfl, _, q0, q1, q2, q3, q4⟩ := (H2.out.below hA.out.1).at k y hy
        obtain ⟨t, x1, f, bb, g⟩ := x
        obtain ⟨t', x1', f', bb', g'⟩ := y
        simp only at p0 p1 p2 p3 p4 q0 q1 q2 q3 q4
        obtain ⟨q, hq⟩ : ∃ q, decide ((⟨t, x1, f, bb, g⟩ : C) = ⟨t', x1', f', bb', g'⟩) = q := ⟨_, rfl⟩
        have hneq := fun W => neq_cell t t' x1 x1' f f' bb bb' g g' W
        rw [hq] at hneq
        have HQ := Lib.hid hq
        have HX := Lib.hid hx
        have HY := Lib.hid hy
        have HB := Lib.hid hA.out.1
        clear hq hx hy
        cases q
        · have hd : (⟨t, x1, f, bb, g⟩ : C) ≠ ⟨t', x1', f', bb', g'⟩ := of_decide_eq_false HQ.out
          have HD := Lib.hid hd
          clear hd
          go_wp2
          go_region
          go_wp2
          go_ret
          refine ⟨ret_bool (decide_eq_false fun e => ?_).symm, HB.out.drew⟩
          subst e
          exact HD.out (Option.some.inj (HX.out.symm.trans HY.out))
        · have hd : (⟨t, x1, f, bb, g⟩ : C) = ⟨t', x1', f', bb', g'⟩ := of_decide_eq_true HQ.out
          have HD := Lib.hid hd
          clear hd
          go_wp2
          go_region
          go_wp2
          go_roundg gf
          case measure => omega
          case rel =>
            refine ⟨k + 1, by omega, by omega, by go_num, HB.out.drew, fun j hj => ?_⟩
            by_cases e : j = k
            · subst e
              rw [HX.out, HY.out, HD.out]
            · exact hA.out.2 j (by omega)
      · have hz : ¬ (k : Int) < (n1 : Int) := by omega
        have hq : k = n1 := by omega
        subst hq
        go_wp2
        go_ret
        refine ⟨ret_bool (decide_eq_true ?_).symm, hA.out.1⟩
        apply List.ext_getElem?
        intro j
        rcases Nat.lt_or_ge j k with h | h
        · exact hA.out.2 j h
        · rw [List.getElem?_eq_none (by rw [HL.out]; exact h), List.getElem?_eq_none (by rw [HM.out]; exact h)]
  · have hb : (((n1 : Nat) : Int) != ((n2 : Nat) : Int)) = true := by simp; omega
    have hd : decide (l = m) = false := decide_eq_false (fun e => hne (by rw [← hl, ← hm, e]))
    rw [hd]
    go_enter Tryd.func18, Tryd.ntmps18
    go_wp2
    go_ret
    exact ⟨rfl, Below.refl _ _⟩

end Go.Proofs.YtcljmmadimldlaaDoor
