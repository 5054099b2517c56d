/-
  The statement on Put and the document's own Put returns true.
-/
import Derived.Test.YtcljmmadimldlaaDoorCrRefPut
namespace Go.Proofs.YtcljmmadimldlaaDoor
open Go.RowKit Go.Shelf Cr

theorem putL_len {l : List C} (hl : l.length ≤ 140) (col : Int) (t : ByteArray) (f b g : Int) : (putL l col t f b g).length ≤ 1000 := by
  by_cases h : putE l col t = 0
  · have hc : colE l col = 0 := by
      unfold putE at h
      split at h
      · rename_i hh; exact absurd h hh
      · rename_i hh; omega
    unfold putL
    rw [if_neg (by omega)]
    unfold repl
    rw [List.length_append, List.length_append, cutL_length, cutR_length, List.length_take, List.length_drop]
    have : (cells t f b g).length ≤ 2 := by unfold cells; split <;> simp
    omega
  · unfold putL; rw [if_pos h]; simp
theorem int_self (a : Int) : (a == a) = true := beq_self_eq_true a
theorem int_self' (a : Int) : (a != a) = false := by simp

set_option maxHeartbeats 4000000 in
set_option maxRecDepth 100000 in
theorem putlaw_walk (A : Option Addr) (n c : Nat) (l : List C) (col : Int) (t : ByteArray) (f b g : Int) (w : World) (hr : Rd w A n l) (hnc : n ≤ c) (hmax : n ≤ 9223372036854775807) (_hc0 : -9223372036854775808 ≤ col) (_hc1 : col ≤ 9223372036854775807) (_htm : t.size ≤ 9223372036854775807) (hT : Lib.Utf8Tabs 0 1 w) :
    Calls Tryd.prog 4 #[.slice A n c, .int .i64 col, .string t, .agg #[.int .i64 f, .int .i64 b, .int .i64 g]] w fun e w' => e = .returned (.bool true) ∧ Below w.heap.size w w' := by
  obtain ⟨W, hW⟩ : ∃ W, w.alloc (.cells #[.int .i64 f, .int .i64 b, .int .i64 g] 24) = W := ⟨_, rfl⟩
  have bW : Below w.heap.size w W := by rw [← hW]; exact (Below.refl _ _).alloc (Nat.le_refl _) _
  have hkA : W.heap[w.heap.size]? = some (.cells #[.int .i64 f, .int .i64 b, .int .i64 g] 24) := by rw [← hW]; exact heap_alloc_new w _
  have HKA := Lib.hid (fun W' (h : Below W.heap.size W W') => (h.block _ (Array.getElem?_eq_some_iff.1 hkA).1).trans hkA)
  have HR := Lib.hid hr
  have HW := Lib.hid bW
  have HT := Lib.hid (fun W' (h : Below w.heap.size w W') => Utf8Tabs_below hT h)
  have CG := Lib.hid (great_any A n c l W (hr.below bW))
  clear bW hkA
  cases hg : great l
  · rw [hg] at CG
    have hsm := sm_of hg
    clear hr hT hg
    by_cases h40 : 40 < t.size
    · have h40z : (40 : Int) < (t.size : Int) := by omega
      clear hsm
      go_enter Tryd.func4, Tryd.ntmps4
      go_wp2_with fail
      refine (CG.out).mono ?_
      rintro e w0 ⟨rfl, rfl⟩
      clear CG
      go_wp2_with fail
      refine (awake_true W (HT.out _ HW.out)).mono ?_
      rintro e wz ⟨rfl, bz⟩
      go_wp2
      go_ret
      exact ⟨rfl, HW.out.trans (bz.mono HW.out.size)⟩
    · have h40z : ¬ (40 : Int) < (t.size : Int) := by omega
      have FP := Lib.hid (put_any A n c l col t f b g W (HR.out.below HW.out) hnc hmax hsm.1 (by omega) (HT.out W HW.out))
      have FR := Lib.hid (fun W' (h : Below w.heap.size w W') => refput_any A n c l col t f b g W' (HR.out.below h) hmax hsm.1 (by omega))
      have HLL := Lib.hid (putL_len hsm.2 col t f b g)
      generalize putL l col t f b g = lp at FP FR HLL
      generalize putE l col t = ep at FP FR
      have hself := int_self (ep : Int)
      clear hsm
      go_enter Tryd.func4, Tryd.ntmps4
      go_wp2_with fail
      refine (CG.out).mono ?_
      rintro e w0 ⟨rfl, rfl⟩
      clear CG
      have q0 := cell_of_row W _ 0 _ _ _ (HKA.out W (Below.refl _ _))
      have q1 := cell_of_row W _ 1 _ _ _ (HKA.out W (Below.refl _ _))
      have q2 := cell_of_row W _ 2 _ _ _ (HKA.out W (Below.refl _ _))
      go_wp2_with fail
      refine (FP.out).mono ?_
      rintro e w1 ⟨A1, n1, c1, rfl, g1⟩
      have B1 := Lib.hid (HW.out.trans (g1.2.2.mono HW.out.size))
      have BW1 := Lib.hid g1.2.2
      have G1 := Lib.hid g1
      clear g1 FP q0 q1 q2
      have q0 := cell_of_row w1 _ 0 _ _ _ (HKA.out w1 BW1.out)
      have q1 := cell_of_row w1 _ 1 _ _ _ (HKA.out w1 BW1.out)
      have q2 := cell_of_row w1 _ 2 _ _ _ (HKA.out w1 BW1.out)
      go_wp2_with fail
      refine (FR.out w1 B1.out).mono ?_
      rintro e w2 ⟨A2, n2, c2, rfl, g2⟩
      have B2 := Lib.hid (B1.out.trans (g2.2.2.mono B1.out.size))
      have S2 := Lib.hid (same_any A1 A2 n1 n2 c1 c2 lp lp w2 (G1.out.1.below g2.2.2) g2.1 (by rw [G1.out.len]; exact HLL.out) (by rw [g2.len]; exact HLL.out))
      rw [decide_eq_true rfl] at S2
      clear g2 FR q0 q1 q2
      go_wp2_with fail
      refine (S2.out).mono ?_
      rintro e w3 ⟨rfl, b3⟩
      have B3 := Lib.hid (B2.out.trans (b3.mono B2.out.size))
      clear b3 S2
      go_wp2_with fail
      refine (awake_true w3 (HT.out _ B3.out)).mono ?_
      rintro e wz ⟨rfl, bz⟩
      go_wp2
      go_ret
      exact ⟨rfl, B3.out.trans (bz.mono B3.out.size)⟩
  · rw [hg] at CG
    clear hr hT hg
    go_enter Tryd.func4, Tryd.ntmps4
    go_wp2_with fail
    refine (CG.out).mono ?_
    rintro e w0 ⟨rfl, rfl⟩
    clear CG
    go_wp2_with fail
    refine (awake_true W (HT.out _ HW.out)).mono ?_
    rintro e wz ⟨rfl, bz⟩
    go_wp2
    go_ret
    exact ⟨rfl, HW.out.trans (bz.mono HW.out.size)⟩

end Go.Proofs.YtcljmmadimldlaaDoor
