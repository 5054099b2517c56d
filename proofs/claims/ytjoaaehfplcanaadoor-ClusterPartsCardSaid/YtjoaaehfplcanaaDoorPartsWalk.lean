/-
  The statement that compares Check, Width, Base and Marks with the document's own returns true, for every string.
-/
import Derived.Test.YtjoaaehfplcanaaDoorAwake
import Derived.Test.YtjoaaehfplcanaaDoorRefMore
import Derived.Deep.RegionHeld3
namespace Go.Proofs.YtjoaaehfplcanaaDoor
open Go.RowKit Go.Shelf

theorem Out.room {w0 w : World} {A : Option Addr} {n cap : Nat} {xs : List Int} (h : Out w0 w (.slice A n cap) xs) : n ≤ cap := by
  rcases h.1.2 with ⟨e, _⟩ | ⟨g, cp, cur, e, _, _, hle, _⟩
  · injection e with _ e1 e2; omega
  · injection e with _ e1 e2; omega
set_option maxHeartbeats 400000 in
set_option maxRecDepth 100000 in
theorem refchars_room (s : ByteArray) (w : World) (hs : s.size ≤ 300) :
    Calls Tryd.prog 22 #[.string s] w fun e w' => ∃ A n cap, e = .returned (.slice A n cap) ∧ n ≤ cap ∧ Gives w w' A n cap (U8.run s.data.toList).1 := by
  have cD := Lib.hid (refdecode_fresh s w (by omega))
  go_enter Tryd.func22, Tryd.ntmps22
  go_wp2_with fail
  refine cD.out.mono ?_
  rintro e w1 ⟨A, n, cap, rfl, hout⟩
  have HG := Lib.hid hout.gives
  have HL := Lib.hid hout.room
  clear hout
  go_wp2
  go_ret
  exact ⟨A, n, cap, rfl, HL.out, HG.out⟩
/-- A slice without its first number. -/
theorem Nums.tail {w : World} {B bb off m : Nat} {b : Int} {ms : List Int} (h2 : Nums w B (some ⟨bb, off, none⟩) (m + 1) (b :: ms)) : Nums w B (some ⟨bb, off + 1, none⟩) m ms := by
  refine ⟨by have := h2.1; simpa using this, fun j hj => ?_⟩
  obtain ⟨b', off', e, hb, hc⟩ := h2.2 (j + 1) (by omega)
  injection e with e
  injection e with e1 e2
  subst e1 e2
  refine ⟨bb, off + 1, rfl, hb, ?_⟩
  simp only [List.getD_cons_succ] at hc
  have e3 : off + 1 + j = off + (j + 1) := by omega
  rw [e3]
  exact hc

set_option maxHeartbeats 2000000 in
set_option maxRecDepth 100000 in
theorem parts_walk (s : ByteArray) (w : World) (hs : s.size ≤ 140737488351232) (hT : Lib.Utf8Tabs 0 1 w) :
    Calls Tryd.prog 4 #[.string s] w fun e w' => e = .returned (.bool true) ∧ Below w.heap.size w w' := by
  by_cases hbig : 200 < s.size
  · have hbz : (200 : Int) < (s.size : Int) := by omega
    have cA := Lib.hid (awake_true w hT)
    go_enter Tryd.func4, Tryd.ntmps4
    go_wp2_with fail
    refine cA.out.mono ?_
    rintro e w1 ⟨rfl, hb⟩
    go_wp2
    go_ret
    exact ⟨rfl, hb⟩
  · have hbz : ¬ (200 : Int) < (s.size : Int) := by omega
    have c1 := Lib.hid (check_any s w (by omega) hT)
    have c2 := Lib.hid (fun W => refcheck_any s W (by omega))
    have c3 := Lib.hid (fun W h => widthC_any s W (by omega) h)
    have c4 := Lib.hid (fun W => refwidth_cl s W (by omega))
    have c5 := Lib.hid (fun W h => base_any s W (by omega) h)
    have c6 := Lib.hid (fun W h => marksC_any s W (by omega) h)
    have c7 := Lib.hid (fun W => refchars_room s W (by omega))
    have HP := Lib.hid (fun h => Cl.parts_whole (l := s.data.toList) h)
    have HB : Hid (Cl.chk s.data.toList ≠ 0 → Cl.baseOf s.data.toList = 0 ∧ Cl.marksOf s.data.toList = []) := Lib.hid (fun h => by
      unfold Cl.baseOf Cl.marksOf
      rw [if_neg h, if_neg h]
      exact ⟨rfl, rfl⟩)
    have hml := Cl.marksOf_len s.data.toList
    generalize Cl.widthC s.data.toList = z at c3 c4
    generalize Cl.baseOf s.data.toList = b at c5 HP HB
    generalize Cl.marksOf s.data.toList = ms at c6 HP HB hml
    generalize (U8.run s.data.toList).1 = xs at HP c7
    generalize Cl.chk s.data.toList = ck at c1 c2 HP HB
    go_enter Tryd.func4, Tryd.ntmps4
    go_wp2_with fail
    refine c1.out.mono ?_
    rintro e w1 ⟨rfl, b1⟩
    have T1 := Utf8Tabs_below hT b1
    go_wp2_with fail
    refine (c2.out w1).mono ?_
    rintro e w2 ⟨rfl, b2⟩
    have T2 := Utf8Tabs_below T1 b2
    have b3 := b1.trans (b2.mono b1.size)
    clear b1 b2 T1
    go_wp2_with fail
    refine (c3.out w2 T2).mono ?_
    rintro e w3 ⟨rfl, b4⟩
    have T3 := Utf8Tabs_below T2 b4
    have b5 := b3.trans (b4.mono b3.size)
    clear b3 b4 T2
    go_wp2_with fail
    refine (c4.out w3).mono ?_
    rintro e w4 ⟨rfl, b6⟩
    have T4 := Utf8Tabs_below T3 b6
    have b7 := b5.trans (b6.mono b5.size)
    clear b5 b6 T3
    go_wp2_with fail
    refine (c2.out w4).mono ?_
    rintro e w5 ⟨rfl, b8⟩
    have T5 := Utf8Tabs_below T4 b8
    have b9 := b7.trans (b8.mono b7.size)
    clear b7 b8 T4
    by_cases hk : ck = 0
    · subst hk
      have hxs := HP.out rfl
      subst hxs
      go_wp2_with fail
      refine (c7.out w5).mono ?_
      rintro e w6 ⟨A, n, cap, rfl, hroom, hg⟩
      have T6 : Lib.Utf8Tabs 0 1 w6.drew := Utf8Tabs_below T5 hg.2.2.drew
      have b10 : Below w.heap.size w w6.drew := (b9.trans (hg.2.2.mono b9.size)).drew
      have hlen := hg.length
      rw [List.length_cons] at hlen
      obtain ⟨m, hm⟩ : ∃ m, ms.length = m := ⟨_, rfl⟩
      obtain rfl : n = m + 1 := by omega
      obtain ⟨bb, off, rfl, hbb, hc0⟩ := hg.1.2 0 (by omega)
      simp only [Nat.add_zero, List.getD_cons_zero] at hc0
      have HM := Lib.hid hg.1
      have HMl := Lib.hid hm
      have hz0 : (0 : Int) < ((m : Int) + 1) := by omega
      have hz1 : (1 : Int) ≤ ((m : Int) + 1) := by omega
      have hz2 : ((m : Int) + 1) ≤ (cap : Int) := by omega
      have hm3 : m ≤ 3 := by omega
      have hbb' : bb < w6.drew.heap.size := hbb
      have HM6 : Hid (Nums w6.drew w6.heap.size (some ⟨bb, off, none⟩) (m + 1) (b :: ms)) := Lib.hid hg.1
      clear hg hlen hm
      by_cases hcap : cap = 1
      · subst hcap
        have hms : ms = [] := List.eq_nil_of_length_eq_zero (by have := HMl.out; omega)
        subst hms
        obtain rfl : m = 0 := HMl.out.symm
        go_wp2_with fail
        go_region_with (first
          | (go_at_call 20; refine (c5.out w6.drew T6).mono ?_; rintro e w7 ⟨rfl, b11⟩; have T7 := Utf8Tabs_below T6 b11; have hc7 := (b11.cell (p := ⟨bb, off, none⟩) hbb').trans hc0; have HM7 := Lib.hid (HM6.out.below b11 (Nat.le_refl _)); have b12 := b10.trans (b11.mono b10.size))
          | (go_at_call 21; refine (c6.out w7 T7).mono ?_; rintro e w8 ⟨A8, n8, k8, rfl, g8⟩; have T8 := Utf8Tabs_below T7 g8.2.2; have b13 := b12.trans (g8.2.2.mono b12.size); have hn8 := g8.length; rw [HMl.out] at hn8; subst hn8; have HM8 := Lib.hid (HM7.out.below g8.2.2 b11.size); have HG8 := Lib.hid g8.1; clear g8)
          | (go_at_call 23; refine (same_true A8 _ 0 k8 _ _ 0 [] w8 (by omega) HG8.out ⟨rfl, fun j hj => absurd hj (Nat.not_lt_zero _)⟩).mono ?_; rintro e w9 ⟨rfl, q, rfl⟩; have T9 : Lib.Utf8Tabs 0 1 (w8.drewN q) := T8; have b15 := below_drewN b13 q)
          | (go_at_call 12; refine (awake_true (w8.drewN q) T9).mono ?_; rintro e w10 ⟨rfl, b16⟩; have b17 := b15.trans (b16.mono b15.size)))
        all_goals
          go_wp2
          go_ret
          exact ⟨rfl, b17⟩
      · clear hroom
        go_wp2_with fail
        go_region_with (first
          | (go_at_call 20; refine (c5.out w6.drew T6).mono ?_; rintro e w7 ⟨rfl, b11⟩; have T7 := Utf8Tabs_below T6 b11; have hc7 := (b11.cell (p := ⟨bb, off, none⟩) hbb').trans hc0; have HM7 := Lib.hid (HM6.out.below b11 (Nat.le_refl _)); have b12 := b10.trans (b11.mono b10.size))
          | (go_at_call 21; refine (c6.out w7 T7).mono ?_; rintro e w8 ⟨A8, n8, k8, rfl, g8⟩; have T8 := Utf8Tabs_below T7 g8.2.2; have b13 := b12.trans (g8.2.2.mono b12.size); have hn8 := g8.length; rw [HMl.out] at hn8; subst hn8; have HM8 := Lib.hid (HM7.out.below g8.2.2 b11.size); have HG8 := Lib.hid g8.1; clear g8)
          | (go_at_call 23; refine (same_true A8 _ _ k8 _ _ _ ms w8 (by omega) HG8.out HM8.out.tail).mono ?_; rintro e w9 ⟨rfl, q, rfl⟩; have T9 : Lib.Utf8Tabs 0 1 (w8.drewN q) := T8; have b15 := below_drewN b13 q)
          | (go_at_call 12; refine (awake_true (w8.drewN q) T9).mono ?_; rintro e w10 ⟨rfl, b16⟩; have b17 := b15.trans (b16.mono b15.size)))
        all_goals
          go_wp2
          go_ret
          exact ⟨rfl, b17⟩
    · have hne := nat_ne hk
      obtain ⟨rfl, rfl⟩ := HB.out hk
      go_wp2_with fail
      refine (c5.out w5 T5).mono ?_
      rintro e w6 ⟨rfl, b10⟩
      have T6 := Utf8Tabs_below T5 b10
      have b11 := b9.trans (b10.mono b9.size)
      clear b9 b10 T5
      go_wp2_with fail
      refine (c6.out w6 T6).mono ?_
      rintro e w7 ⟨A, n, cap, rfl, hg⟩
      have T7 := Utf8Tabs_below T6 hg.2.2
      have b12 := b11.trans (hg.2.2.mono b11.size)
      obtain rfl : n = 0 := hg.length
      clear hg b11 T6
      have cA := Lib.hid (awake_true w7 T7)
      go_wp2_with fail
      refine cA.out.mono ?_
      rintro e w8 ⟨rfl, b13⟩
      go_wp2
      go_ret
      exact ⟨rfl, b12.trans (b13.mono b12.size)⟩

end Go.Proofs.YtjoaaehfplcanaaDoor
