/-
  The statement on streams in two chunks returns true, for every string and every number.
-/
import Derived.Test.YtbhhadifhojlbaaDoorUse
namespace Go.Proofs.YtbhhadifhojlbaaDoor
open Go.RowKit Go.Shelf

theorem ext_bytes {a b : ByteArray} (h : a.data.toList = b.data.toList) : a = b := by
  cases a; cases b
  congr
  exact Array.toList_inj.1 h

set_option maxHeartbeats 1000000 in
set_option maxRecDepth 100000 in
theorem split_walk (s : ByteArray) (x : Int) (w : World) (hs : s.size ≤ 140737488351232) (hx0 : 0 ≤ x) (hx1 : x ≤ 65535) (hT : Lib.Utf8Tabs 0 1 w) :
    Calls Tryd.prog 5 #[.string s, .int .u16 x] w fun e w' => e = .returned (.bool true) ∧ Below w.heap.size w w' := by
  by_cases hbig : 300 < s.size
  · have hbz : (300 : Int) < (s.size : Int) := by omega
    have cA := Lib.hid (awake_true w hT)
    go_enter Tryd.func5, Tryd.ntmps5
    go_wp2_with fail
    refine cA.out.mono ?_
    rintro e w1 ⟨rfl, hb⟩
    go_wp2
    go_ret
    exact ⟨rfl, hb⟩
  · have hbz : ¬ (300 : Int) < (s.size : Int) := by omega
    obtain ⟨k, hk⟩ : ∃ k : Nat, x % ((s.size : Int) + 1) = (k : Int) := ⟨(x % ((s.size : Int) + 1)).toNat, by
      have := Int.emod_nonneg x (show ((s.size : Int) + 1) ≠ 0 by omega); omega⟩
    have hks : k ≤ s.size := by
      have := Int.emod_lt_of_pos x (show (0 : Int) < (s.size : Int) + 1 by omega); omega
    have hkz : (k : Int) ≤ (s.size : Int) := by omega
    have hk0 : (0 : Int) ≤ (k : Int) := by omega
    obtain ⟨sa, hsa⟩ : ∃ sa, s.extract 0 k = sa := ⟨_, rfl⟩
    obtain ⟨sb, hsb⟩ : ∃ sb, s.extract k s.size = sb := ⟨_, rfl⟩
    have za : sa.size = k := by rw [← hsa, ByteArray.size_extract]; omega
    have zb : sb.size + k = s.size := by rw [← hsb, ByteArray.size_extract]; omega
    have Hcat : Hid (s.data.toList = sa.data.toList ++ sb.data.toList) := Lib.hid (by
      rw [← hsa, ← hsb, Lib.extract_data, Lib.extract_data, List.drop_zero, Nat.sub_zero, List.take_of_length_le (l := List.drop k s.data.toList) (by rw [List.length_drop, ← Lib.size_eq]; exact Nat.le_refl _), List.take_append_drop])
    have zal : sa.size ≤ 300 := by omega
    have zbl : sb.size ≤ 300 := by omega
    clear za zb
    go_enter Tryd.func5, Tryd.ntmps5
    go_wp2_with fail
    refine (decode_gives_fresh sa w (by omega) hT).mono ?_
    rintro e w1 ⟨A1, n1, c1, t1, rfl, ht1, g1⟩
    have T1 := Utf8Tabs_below hT g1.2.2
    have hz1 : t1.size ≤ 3 := by
      rw [Lib.size_eq, ht1]
      exact U8.opened_length (U8.opened_run _)
    have H1 := Lib.hid ht1
    clear ht1
    go_wp2_with fail
    refine (decode_gives t1 sb w1 (by omega) T1).mono ?_
    rintro e w2 ⟨A2, n2, c2, t2, rfl, ht2, g2⟩
    have T2 := Utf8Tabs_below T1 g2.2.2
    have H2 := Lib.hid ht2
    clear ht2
    go_wp2_with fail
    refine (decode_gives_fresh s w2 (by omega) T2).mono ?_
    rintro e w3 ⟨A3, n3, c3, t3, rfl, ht3, g3⟩
    have T3 := Utf8Tabs_below T2 g3.2.2
    have hsp := U8.run_split sa.data.toList sb.data.toList
    rw [← Hcat.out, ← H1.out] at hsp
    have e1 := congrArg (fun z : List Int × List UInt8 => z.1) hsp
    have e2 := congrArg (fun z : List Int × List UInt8 => z.2) hsp
    simp only at e1 e2
    obtain rfl : t3 = t2 := ext_bytes (by rw [ht3, H2.out, e2])
    have b2 : Below w.heap.size w w2 := g1.2.2.trans (g2.2.2.mono g1.2.2.size)
    have b3 : Below w.heap.size w w3 := b2.trans (g3.2.2.mono b2.size)
    have l1 := g1.2.2.size
    have l2 := g2.2.2.size
    have l3 := g3.2.2.size
    have m1 : Nums w3 w3.heap.size A1 n1 (U8.run sa.data.toList).1 := ((g1.1.below g2.2.2 (Nat.le_refl _)).below g3.2.2 l2).more (by omega)
    have m2 : Nums w3 w3.heap.size A2 n2 (U8.run (t1.data.toList ++ sb.data.toList)).1 := (g2.1.below g3.2.2 (Nat.le_refl _)).more l3
    have m3 := g3.1
    have k1 := g1.2.1
    have k2 := g2.2.1
    have z1 : (U8.run sa.data.toList).1.length ≤ 300 := Nat.le_trans (U8.run_out_le _) (by rw [← Lib.size_eq]; exact zal)
    have z2 : (U8.run (t1.data.toList ++ sb.data.toList)).1.length ≤ 400 := Nat.le_trans (U8.run_out_le _) (by rw [List.length_append, ← Lib.size_eq, ← Lib.size_eq]; omega)
    rw [e1] at m3
    clear g1 g2 g3 e1 e2 hsp H1 H2 ht3 T1 T2 hT b2 l1 l2 l3
    generalize (U8.run sa.data.toList).1 = xa at m1 m3 z1
    generalize (U8.run (t1.data.toList ++ sb.data.toList)).1 = xb at m2 m3 z2
    have K1 := Lib.hid k1
    have K2 := Lib.hid k2
    clear k1 k2
    go_wp2_with (first | (at_builtin; refine wpList_join rfl (.tmp 42) (.tmp 43) rfl w3 _ _ [] xa A1 n1 c1 _ rfl rfl (Out.laid w3) (m1.alloc (Nat.le_refl _) _) K1.out (by simp; omega) ?_; intro v4 w4 hout4; rw [List.nil_append] at hout4) | (at_builtin; refine wpList_join rfl (.tmp 44) (.tmp 45) rfl w3 _ _ xa xb A2 n2 c2 _ rfl rfl hout4 (m2.below hout4.2 (Nat.le_refl _)) K2.out (by omega) ?_; intro v5 w5 hout5; obtain ⟨A5, c5, hv5⟩ := hout5.slice; subst hv5))
    have hn3 : xa.length + xb.length = n3 := by have := m3.1; rwa [List.length_append] at this
    subst hn3
    have m5 : Nums w5 w5.heap.size A5 (xa.length + xb.length) (xa ++ xb) := by
      have := hout5.nums
      rw [List.length_append] at this
      exact this.2
    have m6 : Nums w5 w3.heap.size A3 (xa.length + xb.length) (xa ++ xb) := m3.below hout5.2 (Nat.le_refl _)
    have T5 := Utf8Tabs_below T3 hout5.2
    have b5 : Below w.heap.size w w5 := b3.trans (hout5.2.mono b3.size)
    clear m1 m2 m3 hout4 hout5 T3 K1 K2
    refine (same_true A5 A3 (xa.length + xb.length) c5 c3 _ _ (xa ++ xb) w5 (by omega) m5 m6).mono ?_
    rintro e w6 ⟨rfl, m, rfl⟩
    have T6 : Lib.Utf8Tabs 0 1 (w5.drewN m) := T5
    have b6 := below_drewN b5 m
    generalize w5.drewN m = w6 at T6 b6 ⊢
    have cA := Lib.hid (awake_true w6 T6)
    go_wp2_with fail
    refine cA.out.mono ?_
    rintro e w7 ⟨rfl, hb7⟩
    go_wp2
    go_ret
    exact ⟨rfl, b6.trans (hb7.mono b6.size)⟩

end Go.Proofs.YtbhhadifhojlbaaDoor
