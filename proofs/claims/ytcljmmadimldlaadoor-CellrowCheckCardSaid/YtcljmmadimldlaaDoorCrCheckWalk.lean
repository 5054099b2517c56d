/-
  The statement on Check, Text and Blank and the document's own returns true.
-/
import Derived.Test.YtcljmmadimldlaaDoorCrRefs
namespace Go.Proofs.YtcljmmadimldlaaDoor
open Go.RowKit Go.Shelf Cr

theorem beq_same (a : Int) : (a == a) = true := beq_self_eq_true a
theorem bytes_same (a : ByteArray) : (a.toList == a.toList) = true := beq_self_eq_true _

set_option maxHeartbeats 4000000 in
set_option maxRecDepth 100000 in
theorem checklaw_walk (A : Option Addr) (n c : Nat) (l : List C) (x : Int) (f b g : Int) (w : World) (hr : Rd w A n l) (hnc : n ≤ c) (hmax : n ≤ 9223372036854775807) (_hx0 : -9223372036854775808 ≤ x) (_hx1 : x ≤ 9223372036854775807) (hT : Lib.Utf8Tabs 0 1 w) :
    Calls Tryd.prog 3 #[.slice A n c, .int .i64 x, .agg #[.int .i64 f, .int .i64 b, .int .i64 g]] w fun e w' => e = .returned (.bool true) ∧ Below w.heap.size w w' := by
  have hl : l.length = n := hr.1
  obtain ⟨W, hW⟩ : ∃ W, w.alloc (.cells #[.int .i64 f, .int .i64 b, .int .i64 g] 24) = W := ⟨_, rfl⟩
  have bW : Below w.heap.size w W := by rw [← hW]; exact (Below.refl _ _).alloc (Nat.le_refl _) _
  have hkA : W.heap[w.heap.size]? = some (.cells #[.int .i64 f, .int .i64 b, .int .i64 g] 24) := by rw [← hW]; exact heap_alloc_new w _
  have HKA := Lib.hid (fun W' (h : Below W.heap.size W W') => (h.block _ (Array.getElem?_eq_some_iff.1 hkA).1).trans hkA)
  have HR := Lib.hid hr
  have HW := Lib.hid bW
  have HT := Lib.hid (fun W' (h : Below w.heap.size w W') => Utf8Tabs_below hT h)
  have CG := Lib.hid (great_any A n c l W (hr.below bW))
  clear bW hkA
  cases hg : great l
  · rw [hg] at CG
    have hsm := sm_of hg
    clear hr hT hg
    have hn : n ≤ 1000 := by omega
    have K1 := Lib.hid (checkRow_any A n c l W.drew (HR.out.below HW.out.drew) hnc hmax hsm.1 (HT.out W.drew HW.out.drew))
    have K2 := Lib.hid (fun W' (h : Below w.heap.size w W') => refCheckRow_any A n c l W' (HR.out.below h) hmax hsm.1)
    have K3 := Lib.hid (fun W' (h : Below w.heap.size w W') => text_any A n c l hn hsm.1 W' (HR.out.below h))
    have K4 := Lib.hid (fun W' (h : Below w.heap.size w W') => reftext_any A n c l hn hsm.1 W' (HR.out.below h))
    have K5 := Lib.hid (fun W' => blankRow_any x f b g W')
    have K6 := Lib.hid (fun W' => refBlank_any x f b g W')
    have HLL : Hid ((if 1 ≤ x ∧ x ≤ 132 then blanks x.toNat b else []).length ≤ 1000) := Lib.hid (by split; rw [blanks_length]; omega; simp)
    generalize (if 1 ≤ x ∧ x ≤ 132 then blanks x.toNat b else []) = lb at K5 K6 HLL
    generalize check l = ep at K1 K2
    generalize (⟨(text l).toArray⟩ : ByteArray) = tx at K3 K4
    have hself := beq_same (ep : Int)
    have hselft := bytes_same tx
    clear hsm hl
    go_enter Tryd.func3, Tryd.ntmps3
    go_wp2_with fail
    refine (CG.out).mono ?_
    rintro e w0 ⟨rfl, rfl⟩
    clear CG
    go_wp2
    go_region_law (first
      | (go_simp; refine K1.out.mono ?_; rintro e w1 ⟨rfl, b1⟩; have B1 := Lib.hid (HW.out.drew.trans (b1.mono HW.out.drew.size)); have BW1 := Lib.hid ((Below.refl W.heap.size W).drew.trans b1); clear b1)
      | (go_simp; refine (K2.out w1 B1.out).mono ?_; rintro e w2 ⟨rfl, b2⟩; have B2 := Lib.hid (B1.out.trans (b2.mono B1.out.size)); have BW2 := Lib.hid (BW1.out.trans (b2.mono BW1.out.size)); clear b2)
      | (go_simp; refine (K3.out w2 B2.out).mono ?_; rintro e w3 ⟨rfl, b3⟩; have B3 := Lib.hid (B2.out.trans (b3.mono B2.out.size)); have BW3 := Lib.hid (BW2.out.trans (b3.mono BW2.out.size)); clear b3; have q0 := cell_of_row w3 _ 0 _ _ _ (HKA.out w3 BW3.out); have q1 := cell_of_row w3 _ 1 _ _ _ (HKA.out w3 BW3.out); have q2 := cell_of_row w3 _ 2 _ _ _ (HKA.out w3 BW3.out))
      | (go_simp; refine (K4.out w3 B3.out).mono ?_; rintro e w4 ⟨rfl, rfl⟩)
      | (go_simp; refine (K5.out w3).mono ?_; rintro e w5 ⟨A5, n5, c5, rfl, g5⟩; have B5 := Lib.hid (B3.out.trans (g5.2.2.mono B3.out.size)); have BW5 := Lib.hid (BW3.out.trans (g5.2.2.mono BW3.out.size)); have G5 := Lib.hid g5; clear g5; have r0 := cell_of_row w5 _ 0 _ _ _ (HKA.out w5 BW5.out); have r1 := cell_of_row w5 _ 1 _ _ _ (HKA.out w5 BW5.out); have r2 := cell_of_row w5 _ 2 _ _ _ (HKA.out w5 BW5.out))
      | (go_simp; refine (K6.out w5).mono ?_; rintro e w6 ⟨A6, n6, c6, rfl, g6⟩; have B6 := Lib.hid (B5.out.trans (g6.2.2.mono B5.out.size)); have S6 := Lib.hid (same_any A5 A6 n5 n6 c5 c6 lb lb w6 (G5.out.1.below g6.2.2) g6.1 (by rw [G5.out.len]; exact HLL.out) (by rw [g6.len]; exact HLL.out)); rw [decide_eq_true rfl] at S6; clear g6)
      | (go_simp; refine S6.out.mono ?_; rintro e w7 ⟨rfl, b7⟩; have B7 := Lib.hid (B6.out.trans (b7.mono B6.out.size)); clear b7)
      | (go_simp; refine (awake_true w7 (HT.out _ B7.out)).mono ?_; rintro e w8 ⟨rfl, b8⟩; have B8 := Lib.hid (B7.out.trans (b8.mono B7.out.size)); clear b8))
    all_goals
      go_wp2
      go_ret
      exact ⟨rfl, B8.out⟩
  · rw [hg] at CG
    clear hr hT hg
    go_enter Tryd.func3, Tryd.ntmps3
    go_wp2_with fail
    refine (CG.out).mono ?_
    rintro e w0 ⟨rfl, rfl⟩
    clear CG
    go_wp2_with fail
    refine (awake_true W (HT.out _ HW.out)).mono ?_
    rintro e wz ⟨rfl, bz⟩
    go_wp2
    go_ret
    exact ⟨rfl, HW.out.trans (bz.mono HW.out.size)⟩

end Go.Proofs.YtcljmmadimldlaaDoor
