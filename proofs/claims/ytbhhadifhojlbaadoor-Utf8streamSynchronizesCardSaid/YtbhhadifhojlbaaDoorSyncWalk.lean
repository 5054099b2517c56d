/-
  The statement on ASCII bytes in a stream returns true, for every two strings and every byte.
-/
import Derived.Test.YtbhhadifhojlbaaDoorSplitWalk
namespace Go.Proofs.YtbhhadifhojlbaaDoor
open Go.RowKit Go.Shelf

theorem toNat_small (b : Nat) (h : b < 128) : (UInt8.ofNat b).toNat = b := by
  rw [UInt8.toNat_ofNat']; omega
theorem encode_ascii (b : Nat) (h : b < 128) : (Utf8.encode (b : Int)).data.toList = [UInt8.ofNat b] := by
  have hv : Utf8.valid (b : Int) = true := by
    unfold Utf8.valid
    simp only [Bool.or_eq_true, Bool.and_eq_true, decide_eq_true_eq]
    omega
  unfold Utf8.encode
  simp only [hv, if_true, Int.toNat_natCast]
  rw [if_pos h]
theorem run_convert_rune_at (W : World) (b : Nat) : (convert 21 9 (.int .i32 (b : Int))).run Tryd.prog W = .ok (.string (Utf8.encode (b : Int))) W := by
  simp [convert, run_underlying Tryd.underlying21, run_underlying Tryd.underlying9, Conv.intToString]

set_option maxHeartbeats 1000000 in
set_option maxRecDepth 100000 in
theorem sync_walk (s t : ByteArray) (x : Int) (w : World) (hr1 : s.size ≤ 140737488351232) (hr2 : t.size ≤ 140737488351232) (hx0 : 0 ≤ x) (hx1 : x ≤ 255) (hT : Lib.Utf8Tabs 0 1 w) :
    Calls Tryd.prog 10 #[.string s, .string t, .int .u8 x] w fun e w' => e = .returned (.bool true) ∧ Below w.heap.size w w' := by
  by_cases hbig : 300 < s.size + t.size
  · have hbz : (300 : Int) < (s.size : Int) + (t.size : Int) := by omega
    have cA := Lib.hid (awake_true w hT)
    go_enter Tryd.func10, Tryd.ntmps10
    go_wp2_with fail
    refine cA.out.mono ?_
    rintro e w1 ⟨rfl, hb⟩
    go_wp2
    go_ret
    exact ⟨rfl, hb⟩
  · have hbz : ¬ (300 : Int) < (s.size : Int) + (t.size : Int) := by omega
    obtain ⟨b, hb⟩ : ∃ b : Nat, x % 128 = (b : Int) := ⟨(x % 128).toNat, by omega⟩
    have hbl : b < 128 := by omega
    go_enter Tryd.func10, Tryd.ntmps10
    go_wp2_with fail
    refine (decode_gives_fresh s w (by omega) hT).mono ?_
    rintro e w1 ⟨A1, n1, c1, t1, rfl, ht1, g1⟩
    have T1 := Utf8Tabs_below hT g1.2.2
    have H1 := Lib.hid ht1
    clear ht1
    go_wp2_with fail
    refine (decode_gives_fresh t w1 (by omega) T1).mono ?_
    rintro e w2 ⟨A2, n2, c2, t2, rfl, ht2, g2⟩
    have T2 := Utf8Tabs_below T1 g2.2.2
    have H2 := Lib.hid ht2
    have hz1 : t1.size ≤ 3 := by
      rw [Lib.size_eq, H1.out]
      exact U8.opened_length (U8.opened_run _)
    have b2 : Below w.heap.size w w2 := g1.2.2.trans (g2.2.2.mono g1.2.2.size)
    have m1 : Nums w2 w2.heap.size A1 n1 (U8.run s.data.toList).1 := (g1.1.below g2.2.2 (Nat.le_refl _)).more g2.2.2.size
    have m2 : Nums w2 w2.heap.size A2 n2 (U8.run t.data.toList).1 := g2.1
    have k1 := Lib.hid g1.2.1
    have k2 := Lib.hid g2.2.1
    have z1 : (U8.run s.data.toList).1.length ≤ 300 := Nat.le_trans (U8.run_out_le _) (by rw [← Lib.size_eq]; omega)
    have z2 : (U8.run t.data.toList).1.length ≤ 300 := Nat.le_trans (U8.run_out_le _) (by rw [← Lib.size_eq]; omega)
    have z3 : (U8.ended t1.data.toList).length ≤ 1 := by
      rw [H1.out, U8.ended_opened (U8.opened_run _)]
      split <;> simp
    clear ht2 g1 g2
    obtain ⟨xs, hxs⟩ : ∃ xs, (U8.run s.data.toList).1 = xs := ⟨_, rfl⟩
    obtain ⟨xt, hxt⟩ : ∃ xt, (U8.run t.data.toList).1 = xt := ⟨_, rfl⟩
    obtain ⟨xe, hxe⟩ : ∃ xe, U8.ended t1.data.toList = xe := ⟨_, rfl⟩
    rw [hxs] at m1 z1
    rw [hxt] at m2 z2
    rw [hxe] at z3
    have HX : Hid ((U8.run s.data.toList).1 = xs ∧ (U8.run t.data.toList).1 = xt ∧ U8.ended t1.data.toList = xe) := Lib.hid ⟨hxs, hxt, hxe⟩
    clear hxs hxt hxe
    go_wp2_with (at_builtin; refine wpList_join rfl (.tmp 35) (.tmp 36) rfl w2 _ _ [] xs A1 n1 c1 _ rfl rfl (Out.laid w2) (m1.alloc (Nat.le_refl _) _) k1.out (by simp; omega) ?_; intro v3 w3 hout3; rw [List.nil_append] at hout3)
    refine (finish_gives t1 w3 (by omega) (Utf8Tabs_below T2 hout3.2)).mono ?_
    rintro e w4 ⟨A4, n4, c4, rfl, g4⟩
    have hout4 := hout3.below g4.2.2
    have m4 := g4.1
    have k4 := Lib.hid g4.2.1
    rw [HX.out.2.2] at m4
    clear g4 hout3
    go_upto_region 7 with (first | (at_builtin; refine wpList_join rfl (.tmp 37) (.tmp 39) rfl w2 _ _ xs xe A4 n4 c4 _ rfl rfl hout4 m4 k4.out (by omega) ?_; intro v5 w5 hout5) | (at_builtin; refine wpList_push rfl (.tmp 40) (.tmp 42) rfl w2 w5 _ (xs ++ xe) (b : Int) rfl rfl hout5 (by simp; omega) ?_; intro v6 w6 hout6) | (at_builtin; refine wpList_join rfl (.tmp 43) (.tmp 44) rfl w2 _ _ (xs ++ xe ++ [(b : Int)]) xt A2 n2 c2 _ rfl rfl hout6 (m2.below hout6.2 (Nat.le_refl _)) k2.out (by simp; omega) ?_; intro v7 w7 hout7; obtain ⟨A7, n7, c7, hv7, m7⟩ := hout7.reads; subst hv7))
    obtain ⟨u, hu⟩ : ∃ u, Utf8.encode (b : Int) = u := ⟨_, rfl⟩
    have hul := encode_ascii b hbl
    rw [hu] at hul
    have hconv : ∀ W : World, (convert 21 9 (.int .i32 (b : Int))).run Tryd.prog W = .ok (.string u) W := fun W => by rw [← hu]; exact run_convert_rune_at W b
    have hus : u.size ≤ 1 := by rw [Lib.size_eq, hul]; simp
    obtain ⟨y1, hy1⟩ : ∃ y1, s ++ u = y1 := ⟨_, rfl⟩
    have hy1s : y1.size ≤ 301 := by rw [← hy1, ByteArray.size_append]; omega
    obtain ⟨y, hy⟩ : ∃ y, y1 ++ t = y := ⟨_, rfl⟩
    have hys : y.size ≤ 601 := by rw [← hy, ByteArray.size_append]; omega
    have HY : Hid (y.data.toList = s.data.toList ++ [UInt8.ofNat b] ++ t.data.toList) := Lib.hid (by rw [← hy, ← hy1, ← hul]; simp [ByteArray.data_append])
    have T7 := Utf8Tabs_below T2 hout7.2
    have b7 : Below w.heap.size w w7 := b2.trans (hout7.2.mono b2.size)
    clear hul hu hout4 hout5 hout6 hout7 m1 m2 m4 k1 k2 k4 T2 hT T1
    go_wp2_with fail
    refine (decode_gives_fresh y w7 (by omega) T7).mono ?_
    rintro e w8 ⟨A8, n8, c8, t8, rfl, ht8, g8⟩
    have hra := U8.run_ascii s.data.toList t.data.toList (UInt8.ofNat b) (by rw [toNat_small b hbl]; exact hbl)
    rw [← HY.out, ← H1.out, toNat_small b hbl, HX.out.1, HX.out.2.1, HX.out.2.2, ← H2.out] at hra
    have e1 := congrArg (fun z : List Int × List UInt8 => z.1) hra
    have e2 := congrArg (fun z : List Int × List UInt8 => z.2) hra
    simp only at e1 e2
    obtain rfl : t8 = t2 := ext_bytes (by rw [ht8, e2])
    have m8 := g8.1
    rw [e1] at m8
    obtain rfl : n8 = n7 := m8.1.symm.trans m7.1
    have m9 : Nums w8 w7.heap.size A7 n8 (xs ++ xe ++ [(b : Int)] ++ xt) := m7.below g8.2.2 (Nat.le_refl _)
    have T8 := Utf8Tabs_below T7 g8.2.2
    have b8 : Below w.heap.size w w8 := b7.trans (g8.2.2.mono b7.size)
    have z8 : n8 ≤ 1000 := by rw [← m8.1]; simp; omega
    clear hra e1 e2 ht8 g8 m7 T7 HY H1 H2 HX
    generalize xs ++ xe ++ [(b : Int)] ++ xt = ys at m8 m9
    go_wp2_with fail
    refine (same_true A8 A7 n8 c8 c7 _ _ ys w8 (by omega) m8 m9).mono ?_
    rintro e w9 ⟨rfl, m, rfl⟩
    have T9 : Lib.Utf8Tabs 0 1 (w8.drewN m) := T8
    have b9 := below_drewN b8 m
    generalize w8.drewN m = w9 at T9 b9 ⊢
    have cA := Lib.hid (awake_true w9 T9)
    go_wp2_with fail
    refine cA.out.mono ?_
    rintro e w10 ⟨rfl, hb10⟩
    go_wp2
    go_ret
    exact ⟨rfl, b9.trans (hb10.mono b9.size)⟩

end Go.Proofs.YtbhhadifhojlbaaDoor
