/-
  What Check and checkColumn of cellrow return.
-/
import Derived.Test.YtgmgnlgolhjhmaaDoorCrFront
namespace Go.Proofs.YtgmgnlgolhjhmaaDoor
open Go.RowKit Go.Shelf Cr

theorem drop_cons {l : List C} {k : Nat} {x : C} (h : l[k]? = some x) : l.drop k = x :: l.drop (k + 1) := by
  have hk : k < l.length := by
    rcases Nat.lt_or_ge k l.length with h' | h'
    · exact h'
    · rw [List.getElem?_eq_none h'] at h; cases h
  rw [List.getElem?_eq_getElem hk] at h
  injection h with h
  rw [List.drop_eq_getElem_cons hk, h]

set_option maxHeartbeats 2000000 in
set_option maxRecDepth 100000 in
theorem checkRow_any (A : Option Addr) (n c : Nat) (l : List C) (w : World) (hr : Rd w A n l) (hnc : n ≤ c) (hmax : n ≤ 9223372036854775807) (ht : ∀ x ∈ l, x.t.size ≤ 300) (hT : Lib.Utf8Tabs 0 1 w) :
    Calls Tryd.prog 35 #[.slice A n c] w fun e w' => e = .returned (.int .i64 (check l : Nat)) ∧ Below w.heap.size w w' := by
  have hl : l.length = n := hr.1
  have CI := Lib.hid (fun W => isLength_any (n : Int) W)
  by_cases h : 1 ≤ n ∧ n ≤ 132
  · have hd : (decide ((1 : Int) ≤ (n : Int) ∧ (n : Int) ≤ 132)) = true := decide_eq_true (by omega)
    rw [hd] at CI
    have hck : check l = scan l := by unfold check; rw [if_neg (by omega)]
    rw [hck]
    have HR := Lib.hid hr
    have HX := Lib.hid ht
    have HT := Lib.hid (fun W' (h : Below w.heap.size w W') => Utf8Tabs_below hT h)
    have HL := Lib.hid hl
    have hn1 : (n : Int) ≤ 132 := by omega
    clear hd hck hr ht hT hl
    go_enter Tryd.func35, Tryd.ntmps35
    go_wp2_with fail
    refine (CI.out _).mono ?_
    rintro e w0 ⟨rfl, rfl⟩
    go_wp2
    go_loopg [3, 4] (n + 1) (fun gk v3 _ wr => ∃ k : Nat, n < gk + k ∧ k ≤ n ∧ v3 = .int .i64 (k : Int) ∧ Aside (Below w.heap.size w wr ∧ scan l = scan (l.drop k)))
    case atStart => exact ⟨0, by omega, Nat.zero_le _, rfl, Below.refl _ _, rfl⟩
    case round =>
      obtain ⟨k, hg, hkn, rfl, hA⟩ := hrel
      by_cases hlt : k < n
      · obtain ⟨g', rfl⟩ : ∃ g', gk = g' + 1 := ⟨gk - 1, by omega⟩
        have hz : (k : Int) < (n : Int) := by omega
        have hz0 : (0 : Int) ≤ (k : Int) := by omega
        have hzc : (k : Int) ≤ (n : Int) := by omega
        have hcc : (k : Int) ≤ (c : Int) := by omega
        have hnc' : (n : Int) ≤ (c : Int) := by omega
        have hck : ¬ c = k := by omega
        have hkl : k < l.length := by rw [HL.out]; exact hlt
        obtain ⟨x, hx⟩ : ∃ x, l[k]? = some x := ⟨l[k], List.getElem?_eq_getElem hkl⟩
        have hrw := HR.out.below hA.out.1
        obtain ⟨b, off, rfl, _, _⟩ := hrw.at k x hx
        have hdr := drop_cons hx
        have hpart := hrw.part k n (by omega) (Nat.le_refl _)
        rw [List.take_of_length_le (by rw [List.length_drop, HL.out]; exact Nat.le_refl _), hdr] at hpart
        have CF := Lib.hid (front_any b (off + k * 5) (n - k) (c - k) x (l.drop (k + 1)) (by omega) wr hpart (HX.out x (List.mem_of_getElem? hx)) (HT.out wr hA.out.1))
        obtain ⟨q, hq⟩ : ∃ q, front x (l.drop (k + 1)) = q := ⟨_, rfl⟩
        rw [hq] at CF
        have HSC := Lib.hid (hA.out.2.trans (by rw [hdr, scan_step, hq]) : scan l = if q ≠ 0 then q else scan ((l.drop (k + 1)).drop (x.w.toNat - 1)))
        have HQ := Lib.hid hq
        have HB := Lib.hid hA.out.1
        have HXK := Lib.hid hx
        clear hA hrw hdr hpart hq hx
        go_wp2_with fail
        refine CF.out.mono ?_
        rintro e w1 ⟨rfl, b1⟩
        have B1 := Lib.hid (HB.out.trans (b1.mono HB.out.size))
        clear b1 CF
        by_cases hq0 : q = 0
        · subst hq0
          obtain ⟨b', off', e', _, p0, p1, p2, p3, p4⟩ := (HR.out.below B1.out).at k x HXK.out
          injection e' with e'
          injection e' with e1 e2
          subst e1 e2
          have hw : ∃ j : Nat, x.w = (j : Int) ∧ 1 ≤ j ∧ k + j ≤ n ∧ scan l = scan (l.drop (k + j)) := by
            have hs := HSC.out
            rw [if_neg (by simp), List.drop_drop] at hs
            rcases front_zero HQ.out with ⟨hw, _⟩ | ⟨hw, _, m, hm⟩
            · refine ⟨1, hw, Nat.le_refl _, by omega, ?_⟩
              rw [hs, hw]
              rfl
            · refine ⟨2, hw, by omega, ?_, ?_⟩
              · have := congrArg List.length hm
                rw [List.length_drop, List.length_cons, HL.out] at this
                omega
              · rw [hs, hw]
                rfl
          obtain ⟨j, hj, hj1, hjn, hjs⟩ := hw
          rw [hj] at p1
          have HJ := Lib.hid hjs
          have hadd : (k : Int) + (j : Int) ≤ 132 := by omega
          have hj0 : (0 : Int) ≤ (j : Int) := by omega
          clear hj hjs p0 p2 p3 p4
          go_wp2
          go_roundg g'
          case measure => omega
          case rel => exact ⟨k + j, by omega, hjn, by go_num, B1.out, HJ.out⟩
        · have hqb : (((q : Nat) : Int) != 0) = true := nat_ne hq0
          go_wp2
          go_ret
          exact ⟨ret_int (by rw [HSC.out, if_pos hq0]), B1.out⟩
      · have hz : ¬ (k : Int) < (n : Int) := by omega
        have hq : k = n := by omega
        subst hq
        go_wp2
        go_ret
        refine ⟨ret_int ?_, hA.out.1⟩
        rw [hA.out.2, List.drop_of_length_le (by rw [HL.out]; exact Nat.le_refl _)]
        rfl
  · have hd : (decide ((1 : Int) ≤ (n : Int) ∧ (n : Int) ≤ 132)) = false := decide_eq_false (by omega)
    rw [hd] at CI
    have hck : check l = 5 := by unfold check; rw [if_pos (by omega)]
    rw [hck]
    go_enter Tryd.func35, Tryd.ntmps35
    go_wp2_with fail
    refine (CI.out _).mono ?_
    rintro e w0 ⟨rfl, rfl⟩
    go_wp2
    go_ret
    exact ⟨rfl, Below.refl _ _⟩

end Go.Proofs.YtgmgnlgolhjhmaaDoor
