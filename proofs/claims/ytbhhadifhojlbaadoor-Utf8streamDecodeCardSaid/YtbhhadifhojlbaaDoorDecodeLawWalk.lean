/-
  The statement that compares Decode and Finish with the document's own returns true, for every two strings.
-/
import Derived.Test.YtbhhadifhojlbaaDoorRefDecode
import Derived.Test.YtbhhadifhojlbaaDoorSplitWalk
namespace Go.Proofs.YtbhhadifhojlbaaDoor
open Go.RowKit Go.Shelf

set_option maxHeartbeats 1000000 in
set_option maxRecDepth 100000 in
theorem decode_walk (s t : ByteArray) (w : World) (hr1 : s.size ≤ 140737488351232) (hr2 : t.size ≤ 140737488351232) (hT : Lib.Utf8Tabs 0 1 w) :
    Calls Tryd.prog 3 #[.string s, .string t] w fun e w' => e = .returned (.bool true) ∧ Below w.heap.size w w' := by
  by_cases hbig : 300 < s.size + t.size
  · have hbz : (300 : Int) < (s.size : Int) + (t.size : Int) := by omega
    have cA := Lib.hid (awake_true w hT)
    go_enter Tryd.func3, Tryd.ntmps3
    go_wp2_with fail
    refine cA.out.mono ?_
    rintro e w1 ⟨rfl, hb⟩
    go_wp2
    go_ret
    exact ⟨rfl, hb⟩
  · have hbz : ¬ (300 : Int) < (s.size : Int) + (t.size : Int) := by omega
    go_enter Tryd.func3, Tryd.ntmps3
    go_wp2_with fail
    refine (decode_gives s t w (by omega) hT).mono ?_
    rintro e w1 ⟨A1, n1, c1, t1, rfl, ht1, g1⟩
    have T1 := Utf8Tabs_below hT g1.2.2
    have H1 := Lib.hid ht1
    clear ht1
    go_wp2_with fail
    refine (refdecode_any s t w1 (by omega)).mono ?_
    rintro e w2 ⟨A2, n2, c2, rfl, hout2⟩
    have g2 := hout2.gives
    have e2 : (⟨(U8.run (s.data.toList ++ t.data.toList)).2.toArray⟩ : ByteArray) = t1 := ext_bytes (by rw [H1.out])
    rw [e2]
    have T2 := Utf8Tabs_below T1 g2.2.2
    have b2 : Below w.heap.size w w2 := g1.2.2.trans (g2.2.2.mono g1.2.2.size)
    obtain rfl : n2 = n1 := g2.length.trans g1.length.symm
    have m1 : Nums w2 w1.heap.size A1 n2 (U8.run (s.data.toList ++ t.data.toList)).1 := g1.1.below g2.2.2 (Nat.le_refl _)
    have m2 := g2.1
    have z2 : n2 ≤ 1000 := by
      rw [g2.length]
      refine Nat.le_trans (U8.run_out_le _) ?_
      rw [List.length_append, ← Lib.size_eq, ← Lib.size_eq]
      omega
    clear H1 e2 g1 g2 hout2 T1
    generalize (U8.run (s.data.toList ++ t.data.toList)).1 = xs at m1 m2
    go_wp2_with fail
    refine (same_true A1 A2 n2 c1 c2 _ _ xs w2 (by omega) m1 m2).mono ?_
    rintro e w3 ⟨rfl, m, rfl⟩
    have T3 : Lib.Utf8Tabs 0 1 (w2.drewN m) := T2
    have b3 := below_drewN b2 m
    generalize w2.drewN m = w3 at T3 b3 ⊢
    clear m1 m2 T2
    go_wp2_with fail
    refine (finish_gives s w3 (by omega) T3).mono ?_
    rintro e w4 ⟨A4, n4, c4, rfl, g4⟩
    have T4 := Utf8Tabs_below T3 g4.2.2
    have b4 : Below w.heap.size w w4 := b3.trans (g4.2.2.mono b3.size)
    go_wp2_with fail
    refine (reffinish_any s w4 (by omega)).mono ?_
    rintro e w5 ⟨A5, n5, c5, rfl, g5⟩
    have T5 := Utf8Tabs_below T4 g5.2.2
    have b5 : Below w.heap.size w w5 := b4.trans (g5.2.2.mono b4.size)
    obtain rfl : n5 = n4 := g5.length.trans g4.length.symm
    have m4 : Nums w5 w4.heap.size A4 n5 (U8.ended s.data.toList) := g4.1.below g5.2.2 (Nat.le_refl _)
    have m5 := g5.1
    have z5 : n5 ≤ 1000 := by
      rw [g5.length]
      have h1 := U8.run_out_le s.data.toList
      rw [← Lib.size_eq] at h1
      unfold U8.ended
      split
      · omega
      · simp; omega
    clear g4 g5 T4
    generalize U8.ended s.data.toList = ys at m4 m5
    go_wp2_with fail
    refine (same_true A4 A5 n5 c4 c5 _ _ ys w5 (by omega) m4 m5).mono ?_
    rintro e w6 ⟨rfl, m6, rfl⟩
    have T6 : Lib.Utf8Tabs 0 1 (w5.drewN m6) := T5
    have b6 := below_drewN b5 m6
    generalize w5.drewN m6 = w6 at T6 b6 ⊢
    have cA := Lib.hid (awake_true w6 T6)
    clear m4 m5 T5
    go_wp2_with fail
    refine cA.out.mono ?_
    rintro e w7 ⟨rfl, hb7⟩
    go_wp2
    go_ret
    exact ⟨rfl, b6.trans (hb7.mono b6.size)⟩

end Go.Proofs.YtbhhadifhojlbaaDoor
