/-
  The statement that compares Encode and Valid with the document's own returns true, for every list of numbers and every string.
-/
import Derived.Test.YtbhhadifhojlbaaDoorRefEncode
namespace Go.Proofs.YtbhhadifhojlbaaDoor
open Go.RowKit Go.Shelf

set_option maxHeartbeats 1000000 in
set_option maxRecDepth 100000 in
theorem refvalid_any (s : ByteArray) (w : World) (hs : s.size ≤ 1000) :
    Calls Tryd.prog 20 #[.string s] w fun e w' => e = .returned (.bool (Lib.validD s.data.toList)) ∧ Below w.heap.size w w' := by
  have hvi := U8.valid_iff s.data.toList
  have cD := refdecode_fresh s w hs
  have hrg : ∀ z ∈ (U8.run s.data.toList).1, -2147483648 ≤ z ∧ z ≤ 2147483647 := U8.run_range s.data.toList
  have hol : (U8.run s.data.toList).1.length ≤ 1000 := Nat.le_trans (U8.run_out_le _) (by rw [← Lib.size_eq]; exact hs)
  have hbe := U8.bytes_encL (U8.run s.data.toList).1
  obtain ⟨V, hV⟩ : ∃ V, Lib.validD s.data.toList = V := ⟨_, rfl⟩
  rw [hV] at hvi ⊢
  generalize U8.run s.data.toList = r at hvi cD hrg hol hbe
  obtain ⟨o, q⟩ := r
  simp only at hvi cD hrg hol hbe
  have CD := Lib.hid cD
  have HV := Lib.hid hvi
  have HR := Lib.hid hrg
  have HB := Lib.hid hbe
  clear cD hvi hrg hbe hV
  by_cases hq : q = []
  · subst hq
    by_cases he : U8.encL o = s.data.toList
    · obtain rfl : V = true := HV.out.2 ⟨rfl, he⟩
      have hE : runesBytes o = s := ext_bytes (by rw [HB.out, he])
      have HE := Lib.hid hE
      clear hE he HV
      go_enter Tryd.func20, Tryd.ntmps20
      go_wp2_with fail
      refine CD.out.mono ?_
      rintro e w1 ⟨A1, n1, c1, rfl, hout⟩
      have g1 := hout.gives
      have z1 : n1 ≤ 1000 := by rw [g1.length]; exact hol
      go_wp2_with fail
      refine (refencode_any A1 n1 c1 w1.heap.size o w1 g1.1 (Nat.le_refl _) z1 HR.out).mono ?_
      rintro e w2 ⟨rfl, b2⟩
      rw [HE.out]
      go_wp2
      go_ret
      exact ⟨rfl, g1.2.2.trans (b2.mono g1.2.2.size)⟩
    · obtain rfl : V = false := by
        cases V
        · rfl
        · exact absurd (HV.out.1 rfl).2 he
      obtain ⟨E, hE⟩ : ∃ E, runesBytes o = E := ⟨_, rfl⟩
      have hne : (E.toList == s.toList) = false := by
        rw [Lib.toList_data, Lib.toList_data, ← hE, HB.out]
        simpa using he
      have HE := Lib.hid hE
      clear hE he HV
      go_enter Tryd.func20, Tryd.ntmps20
      go_wp2_with fail
      refine CD.out.mono ?_
      rintro e w1 ⟨A1, n1, c1, rfl, hout⟩
      have g1 := hout.gives
      have z1 : n1 ≤ 1000 := by rw [g1.length]; exact hol
      go_wp2_with fail
      refine (refencode_any A1 n1 c1 w1.heap.size o w1 g1.1 (Nat.le_refl _) z1 HR.out).mono ?_
      rintro e w2 ⟨rfl, b2⟩
      rw [HE.out]
      go_wp2
      go_ret
      exact ⟨rfl, g1.2.2.trans (b2.mono g1.2.2.size)⟩
  · obtain rfl : V = false := by
      cases V
      · rfl
      · exact absurd (HV.out.1 rfl).1 hq
    have hem : q.isEmpty = false := by
      cases q with
      | nil => exact absurd rfl hq
      | cons _ _ => rfl
    clear HV
    go_enter Tryd.func20, Tryd.ntmps20
    go_wp2_with fail
    refine CD.out.mono ?_
    rintro e w1 ⟨A1, n1, c1, rfl, hout⟩
    have g1 := hout.gives
    go_wp2
    go_ret
    exact ⟨rfl, g1.2.2⟩

set_option maxHeartbeats 1000000 in
set_option maxRecDepth 100000 in
theorem encodelaw_walk (A : Option Addr) (n c : Nat) (xs : List Int) (s : ByteArray) (w : World) (hN : Nums w w.heap.size A n xs) (_hnil : A = none → n = 0 ∧ c = 0) (hn : n ≤ 9223372036854775807) (hrange : ∀ z ∈ xs, -2147483648 ≤ z ∧ z ≤ 2147483647) (hs : s.size ≤ 140737488351232) (hT : Lib.Utf8Tabs 0 1 w) :
    Calls Tryd.prog 4 #[.slice A n c, .string s] w fun e w' => e = .returned (.bool true) ∧ Below w.heap.size w w' := by
  have cA := Lib.hid (awake_true w hT)
  by_cases hbig : 100 < n
  · have hbz : (100 : Int) < (n : Int) := by omega
    clear hrange
    go_enter Tryd.func4, Tryd.ntmps4
    go_wp2_with fail
    refine cA.out.mono ?_
    rintro e w1 ⟨rfl, hb⟩
    go_wp2
    go_ret
    exact ⟨rfl, hb⟩
  · have hbz : ¬ (100 : Int) < (n : Int) := by omega
    by_cases hbig2 : 300 < s.size
    · have hbz2 : (300 : Int) < (s.size : Int) := by omega
      clear hrange
      go_enter Tryd.func4, Tryd.ntmps4
      go_wp2_with fail
      refine cA.out.mono ?_
      rintro e w1 ⟨rfl, hb⟩
      go_wp2
      go_ret
      exact ⟨rfl, hb⟩
    · have hbz2 : ¬ (300 : Int) < (s.size : Int) := by omega
      have cE := Lib.hid (encode_any A n c w.heap.size xs w hN)
      have cR := Lib.hid (refencode_any A n c w.heap.size xs w hN (Nat.le_refl _) (by omega) hrange)
      generalize runesBytes xs = E at cE cR
      clear hrange hN cA
      go_enter Tryd.func4, Tryd.ntmps4
      go_wp2_with fail
      refine cE.out.mono ?_
      rintro e w1 ⟨rfl, rfl⟩
      go_wp2_with fail
      refine cR.out.mono ?_
      rintro e w1 ⟨rfl, b1⟩
      have T1 := Utf8Tabs_below hT b1
      obtain ⟨V, hV⟩ : ∃ V, Lib.validD s.data.toList = V := ⟨_, rfl⟩
      have cV := valid_any s w1 hs T1
      rw [hV] at cV
      have CV := Lib.hid cV
      have HV := Lib.hid hV
      clear cV hV
      go_wp2_with fail
      refine CV.out.mono ?_
      rintro e w2 ⟨rfl, b2⟩
      have T2 := Utf8Tabs_below T1 b2
      have b3 : Below w.heap.size w w2 := b1.trans (b2.mono b1.size)
      have cW := refvalid_any s w2 (by omega)
      rw [HV.out] at cW
      have CW := Lib.hid cW
      clear cW
      go_wp2_with fail
      refine CW.out.mono ?_
      rintro e w4 ⟨rfl, b4⟩
      have T4 := Utf8Tabs_below T2 b4
      have b5 : Below w.heap.size w w4 := b3.trans (b4.mono b3.size)
      have cA := Lib.hid (awake_true w4 T4)
      have hVV : (V == V) = true := by simp
      go_wp2_with fail
      refine cA.out.mono ?_
      rintro e w5 ⟨rfl, hb5⟩
      go_wp2
      go_ret
      exact ⟨rfl, b5.trans (hb5.mono b5.size)⟩

end Go.Proofs.YtbhhadifhojlbaaDoor
