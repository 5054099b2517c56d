/-
  The statement on Insert and Delete and the document's own returns true.
-/
import Derived.Test.YtcljmmadimldlaaDoorCrRefIns
namespace Go.Proofs.YtcljmmadimldlaaDoor
open Go.RowKit Go.Shelf Cr

theorem insL_len {l : List C} (hl : l.length ≤ 140) (col x b : Int) : (insL l col x b).length ≤ 1000 := by
  by_cases h : colE l col = 0
  · obtain ⟨k, rfl, hk, _, _⟩ := colE_zero h
    unfold insL
    rw [if_neg (by omega)]
    split
    · omega
    · rw [Int.toNat_natCast, ins_length k _ b (by omega)]
      omega
  · unfold insL; rw [if_pos h]; simp
theorem delL_len {l : List C} (hl : l.length ≤ 140) (col x b : Int) : (delL l col x b).length ≤ 1000 := by
  by_cases h : colE l col = 0
  · obtain ⟨k, rfl, hk, _, _⟩ := colE_zero h
    unfold delL
    rw [if_neg (by omega)]
    split
    · omega
    · rw [Int.toNat_natCast, del_length k _ b (by omega)]
      omega
  · unfold delL; rw [if_pos h]; simp
theorem self_beq (a : Int) : (a == a) = true := beq_self_eq_true a
theorem self_bne (a : Int) : (a != a) = false := by simp

set_option maxHeartbeats 4000000 in
set_option maxRecDepth 100000 in
theorem shift_walk (A : Option Addr) (n c : Nat) (l : List C) (col x : Int) (f b g : Int) (w : World) (hr : Rd w A n l) (hnc : n ≤ c) (hmax : n ≤ 9223372036854775807) (_hc0 : -9223372036854775808 ≤ col) (_hc1 : col ≤ 9223372036854775807) (_hx0 : -9223372036854775808 ≤ x) (_hx1 : x ≤ 9223372036854775807) (hT : Lib.Utf8Tabs 0 1 w) :
    Calls Tryd.prog 5 #[.slice A n c, .int .i64 col, .int .i64 x, .agg #[.int .i64 f, .int .i64 b, .int .i64 g]] w fun e w' => e = .returned (.bool true) ∧ Below w.heap.size w w' := by
  obtain ⟨W, hW⟩ : ∃ W, w.alloc (.cells #[.int .i64 f, .int .i64 b, .int .i64 g] 24) = W := ⟨_, rfl⟩
  have bW : Below w.heap.size w W := by rw [← hW]; exact (Below.refl _ _).alloc (Nat.le_refl _) _
  have hkA : W.heap[w.heap.size]? = some (.cells #[.int .i64 f, .int .i64 b, .int .i64 g] 24) := by rw [← hW]; exact heap_alloc_new w _
  have HKA := Lib.hid (fun W' (h : Below W.heap.size W W') => (h.block _ (Array.getElem?_eq_some_iff.1 hkA).1).trans hkA)
  have HR := Lib.hid hr
  have HW := Lib.hid bW
  have HT := Lib.hid (fun W' (h : Below w.heap.size w W') => Utf8Tabs_below hT h)
  have CG := Lib.hid (great_any A n c l W (hr.below bW))
  clear bW hkA
  cases hg : great l
  · rw [hg] at CG
    have hsm := sm_of hg
    clear hr hT hg
    have FP := Lib.hid (fun W' (h : Below w.heap.size w W') => insert_any A n c l col x f b g W' (HR.out.below h) hnc hmax hsm.1 (HT.out W' h))
    have FR := Lib.hid (fun W' (h : Below w.heap.size w W') => refinsert_any A n c l col x f b g W' (HR.out.below h) hmax hsm.1)
    have FD := Lib.hid (fun W' (h : Below w.heap.size w W') => delete_any A n c l col x f b g W' (HR.out.below h) hnc hmax hsm.1 (HT.out W' h))
    have FG := Lib.hid (fun W' (h : Below w.heap.size w W') => refdelete_any A n c l col x f b g W' (HR.out.below h) hmax hsm.1)
    have HLL := Lib.hid (insL_len hsm.2 col x b)
    have HLF := Lib.hid (delL_len hsm.2 col x b)
    generalize insL l col x b = lp at FP FR HLL
    generalize delL l col x b = ld at FD FG HLF
    generalize colE l col = ep at FP FR FD FG
    have hself := self_beq (ep : Int)
    have hself' := self_bne (ep : Int)
    clear hsm
    go_enter Tryd.func5, Tryd.ntmps5
    go_wp2_with fail
    refine (CG.out).mono ?_
    rintro e w0 ⟨rfl, rfl⟩
    clear CG
    have q0 := cell_of_row W _ 0 _ _ _ (HKA.out W (Below.refl _ _))
    have q1 := cell_of_row W _ 1 _ _ _ (HKA.out W (Below.refl _ _))
    have q2 := cell_of_row W _ 2 _ _ _ (HKA.out W (Below.refl _ _))
    go_wp2_with fail
    refine (FP.out W HW.out).mono ?_
    rintro e w1 ⟨A1, n1, c1, rfl, g1⟩
    have B1 := Lib.hid (HW.out.trans (g1.2.2.mono HW.out.size))
    have BW1 := Lib.hid ((Below.refl W.heap.size W).trans (g1.2.2.mono (Below.refl W.heap.size W).size))
    have G1 := Lib.hid g1
    clear g1 FP q0 q1 q2
    have q0 := cell_of_row w1 _ 0 _ _ _ (HKA.out w1 BW1.out)
    have q1 := cell_of_row w1 _ 1 _ _ _ (HKA.out w1 BW1.out)
    have q2 := cell_of_row w1 _ 2 _ _ _ (HKA.out w1 BW1.out)
    go_wp2_with fail
    refine (FR.out w1 B1.out).mono ?_
    rintro e w2 ⟨A2, n2, c2, rfl, g2⟩
    have B2 := Lib.hid (B1.out.trans (g2.2.2.mono B1.out.size))
    have BW2 := Lib.hid (BW1.out.trans (g2.2.2.mono BW1.out.size))
    have S2 := Lib.hid (same_any A1 A2 n1 n2 c1 c2 lp lp w2 (G1.out.1.below g2.2.2) g2.1 (by rw [G1.out.len]; exact HLL.out) (by rw [g2.len]; exact HLL.out))
    rw [decide_eq_true rfl] at S2
    clear g2 FR q0 q1 q2
    go_wp2_with fail
    refine (S2.out).mono ?_
    rintro e w3 ⟨rfl, b3⟩
    have B3 := Lib.hid (B2.out.trans (b3.mono B2.out.size))
    have BW3 := Lib.hid (BW2.out.trans (b3.mono BW2.out.size))
    clear b3 S2
    have q0 := cell_of_row w3 _ 0 _ _ _ (HKA.out w3 BW3.out)
    have q1 := cell_of_row w3 _ 1 _ _ _ (HKA.out w3 BW3.out)
    have q2 := cell_of_row w3 _ 2 _ _ _ (HKA.out w3 BW3.out)
    go_wp2_with fail
    refine (FD.out w3 B3.out).mono ?_
    rintro e w4 ⟨A4, n4, c4, rfl, g4⟩
    have B4 := Lib.hid (B3.out.trans (g4.2.2.mono B3.out.size))
    have BW4 := Lib.hid (BW3.out.trans (g4.2.2.mono BW3.out.size))
    have G4 := Lib.hid g4
    clear g4 FD q0 q1 q2
    have q0 := cell_of_row w4 _ 0 _ _ _ (HKA.out w4 BW4.out)
    have q1 := cell_of_row w4 _ 1 _ _ _ (HKA.out w4 BW4.out)
    have q2 := cell_of_row w4 _ 2 _ _ _ (HKA.out w4 BW4.out)
    go_wp2_with fail
    refine (FG.out w4 B4.out).mono ?_
    rintro e w5 ⟨A5, n5, c5, rfl, g5⟩
    have B5 := Lib.hid (B4.out.trans (g5.2.2.mono B4.out.size))
    have BW5 := Lib.hid (BW4.out.trans (g5.2.2.mono BW4.out.size))
    have S5 := Lib.hid (same_any A4 A5 n4 n5 c4 c5 ld ld w5 (G4.out.1.below g5.2.2) g5.1 (by rw [G4.out.len]; exact HLF.out) (by rw [g5.len]; exact HLF.out))
    rw [decide_eq_true rfl] at S5
    clear g5 FG q0 q1 q2
    go_wp2_with fail
    refine (S5.out).mono ?_
    rintro e w6 ⟨rfl, b6⟩
    have B6 := Lib.hid (B5.out.trans (b6.mono B5.out.size))
    have BW6 := Lib.hid (BW5.out.trans (b6.mono BW5.out.size))
    clear b6 S5
    go_wp2_with fail
    refine (awake_true w6 (HT.out _ B6.out)).mono ?_
    rintro e wz ⟨rfl, bz⟩
    go_wp2
    go_ret
    exact ⟨rfl, B6.out.trans (bz.mono B6.out.size)⟩
  · rw [hg] at CG
    clear hr hT hg
    go_enter Tryd.func5, Tryd.ntmps5
    go_wp2_with fail
    refine (CG.out).mono ?_
    rintro e w0 ⟨rfl, rfl⟩
    clear CG
    go_wp2_with fail
    refine (awake_true W (HT.out _ HW.out)).mono ?_
    rintro e wz ⟨rfl, bz⟩
    go_wp2
    go_ret
    exact ⟨rfl, HW.out.trans (bz.mono HW.out.size)⟩

end Go.Proofs.YtcljmmadimldlaaDoor
