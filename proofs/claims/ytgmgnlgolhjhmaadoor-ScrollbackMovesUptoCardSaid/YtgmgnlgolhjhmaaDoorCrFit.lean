/-
  What Fit of cellrow returns.
-/
import Derived.Test.YtgmgnlgolhjhmaaDoorCrCheck
namespace Go.Proofs.YtgmgnlgolhjhmaaDoor
open Go.RowKit Go.Shelf Cr

def fitL (l : List C) (x : Int) : List C := if check l = 0 ∧ 1 ≤ x ∧ x ≤ 132 then fit l x.toNat else []
theorem one_col {w : World} (i : Nat) : Cols (w.alloc (.cells #[.int .i64 (i : Int)] 3)) w.heap.size [i] := by
  refine ⟨by simp, fun q k hq => ?_⟩
  have hh := heap_alloc_new w (.cells #[.int .i64 (i : Int)] 3)
  match q, hq with
  | 0, hq => have e : i = k := by simpa using hq
             rw [← e]; exact cell_of_row _ w.heap.size 0 _ _ _ hh
  | q + 1, hq => simp at hq
theorem sep_left {l : List C} (h : Pr l) (k : Nat) (hk : k ≤ l.length) : (sep l k).take k = cutL (l.take k) := by
  rw [sep_cut h k hk, List.take_left' (by rw [cutL_length, List.length_take]; omega)]

set_option maxHeartbeats 4000000 in
set_option maxRecDepth 100000 in
theorem fit_any (A : Option Addr) (n c : Nat) (l : List C) (x : Int) (w : World) (hr : Rd w A n l) (hnc : n ≤ c) (hmax : n ≤ 9223372036854775807) (ht : ∀ y ∈ l, y.t.size ≤ 300) (hT : Lib.Utf8Tabs 0 1 w) :
    Calls Tryd.prog 36 #[.slice A n c, .int .i64 x] w fun e w' => ∃ A' n' c', e = .returned (.slice A' n' c') ∧ GivesC w w' A' n' c' (fitL l x) ∧ Fr w A' := by
  have hl : l.length = n := hr.1
  have CC := Lib.hid (checkRow_any A n c l w hr hnc hmax ht hT)
  have CI := Lib.hid (fun W => isLength_any x W)
  have HR := Lib.hid hr
  obtain ⟨q, hq⟩ : ∃ q, check l = q := ⟨_, rfl⟩
  rw [hq] at CC
  clear hr hT
  by_cases h0 : q = 0
  · subst h0
    by_cases h1 : 1 ≤ x ∧ x ≤ 132
    · rw [decide_eq_true h1] at CI
      have hP := check_zero.1 hq
      obtain ⟨v, rfl⟩ : ∃ v : Nat, x = (v : Int) := ⟨x.toNat, by omega⟩
      obtain ⟨k, hk⟩ : ∃ k, min v n = k := ⟨_, rfl⟩
      have hmin : min (v : Int) (n : Int) = (k : Int) := by omega
      obtain ⟨m, hm⟩ : ∃ m, v - k = m := ⟨_, rfl⟩
      have hsub : (v : Int) - (k : Int) = (m : Int) := by omega
      have L2 : fitL l (v : Int) = fit l v := by unfold fitL; rw [if_pos ⟨hq, h1⟩, Int.toNat_natCast]
      rw [L2]
      obtain ⟨ab, ao, rfl⟩ := HR.out.addr (by omega)
      have CS := Lib.hid (fun (W' : World) (h : Rd W' (some ⟨ab, ao, none⟩) n l) => separate_any ab ao n c l (by omega) hP.2.2 W'.heap.size 1 [k] (by intro y hy; simp at hy; omega) rfl (by decide) (W'.alloc (.cells #[.int .i64 (k : Int)] 3)) (h.alloc _) (one_col k))
      have CB := Lib.hid (fun W' => blanks_any m (by omega) (-1) W')
      have hfin : (seps l [k]).take k ++ blanks m (-1) = fit l v := by
        unfold fit
        rw [hl, hk, hm, ← sep_left hP.2.2 k (by omega)]
        rfl
      have HF := Lib.hid hfin
      have hsl : (seps l [k]).length = n := by rw [seps_length]; exact hl
      have l1 : ((seps l [k]).take k).length + (blanks m (-1)).length ≤ 100000 := by rw [List.length_take, hsl, blanks_length]; omega
      have hkn : k ≤ n := by omega
      have hkz : (k : Int) ≤ (n : Int) := by omega
      have hk0 : (0 : Int) ≤ (k : Int) := by omega
      have hn132 : (n : Int) ≤ 132 := by omega
      have hv : (v : Int) ≤ 132 := h1.2
      have HMIN := Lib.hid hmin
      have hwm : IntKind.i64.wrap (m : Int) = (m : Int) := by rw [IntKind.wrap_i64]; omega
      clear L2 hfin hsl hk hm h1 hP hq
      go_enter Tryd.func36, Tryd.ntmps36
      go_wp2_with fail
      refine CC.out.mono ?_
      rintro e w1 ⟨rfl, b1⟩
      have B1 := Lib.hid b1
      clear b1 CC
      go_wp2_with fail
      refine (CI.out w1).mono ?_
      rintro e w0 ⟨rfl, rfl⟩
      clear CI
      go_wp2_with fail
      refine (CS.out w1 (HR.out.below B1.out)).mono ?_
      rintro e w2 ⟨g2, cap, rfl, hO⟩
      have hb12 : Below w1.heap.size w1 w2 := ((Below.refl _ w1).alloc (Nat.le_refl _) _).trans (hO.2.mono (by simp))
      have hge : w1.heap.size ≤ g2 := Nat.le_trans (by simp) hO.ge
      have B12 := Lib.hid hb12.drew
      have hcap := hO.cap
      have hcz2 : (k : Int) ≤ (cap : Int) := by omega
      have HM1 := Lib.hid (hO.rd.1.drew.head (i := k) hkn)
      have B2 := Lib.hid ((B1.out.trans (hb12.mono B1.out.size)).drew)
      clear hO CS hb12
      go_wp2
      go_region_law (first
        | (go_simp; refine (CB.out w2.drew).mono ?_; rintro e' w7 ⟨g7, rfl, hO7⟩; have M7 := Lib.hid (Mine.full (w0 := w1) (HM1.out.below hO7.2) (B12.out.trans (hO7.2.mono B12.out.size)) hge); have Y7 := Lib.hid hO7.rd; clear hO7)
        | (refine step_joinC (by rfl) (.tmp 26) (.tmp 30) (by rfl) w1 w7 _ _ _ (some ⟨g7, 0, none⟩) m m (by rfl) (by rfl) M7.out Y7.out.1 Y7.out.2 l1 ?_; intro A6 n6 c6 w6 hO6; have HF6 := Lib.hid (And.intro (hO6.out.gives.rebase B1.out) (hO6.out.fr.rebase B1.out)); clear hO6))
      all_goals
        go_wp2
        go_ret
        refine ⟨_, _, _, rfl, ?_⟩
        rw [← HF.out]
        exact HF6.out
    · rw [decide_eq_false h1] at CI
      have L2 : fitL l x = [] := by unfold fitL; rw [if_neg (fun h => h1 h.2)]
      rw [L2]
      clear L2
      go_enter Tryd.func36, Tryd.ntmps36
      go_wp2_with fail
      refine CC.out.mono ?_
      rintro e w1 ⟨rfl, b1⟩
      have B1 := Lib.hid b1
      clear b1 CC
      go_wp2_with fail
      refine (CI.out w1).mono ?_
      rintro e w0 ⟨rfl, rfl⟩
      go_wp2
      go_ret
      exact ⟨_, _, _, rfl, gives_nil B1.out, Fr.none _⟩
  · have hqb : (((q : Nat) : Int) != 0) = true := nat_ne h0
    have L2 : fitL l x = [] := by unfold fitL; rw [if_neg (fun h => by omega)]
    rw [L2]
    clear L2
    go_enter Tryd.func36, Tryd.ntmps36
    go_wp2_with fail
    refine CC.out.mono ?_
    rintro e w1 ⟨rfl, b1⟩
    have B1 := Lib.hid b1
    clear b1 CC
    go_wp2
    go_ret
    exact ⟨_, _, _, rfl, gives_nil B1.out, Fr.none _⟩

end Go.Proofs.YtgmgnlgolhjhmaaDoor
