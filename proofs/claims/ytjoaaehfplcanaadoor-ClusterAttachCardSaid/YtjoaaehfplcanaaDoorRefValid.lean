/-
  What the document's own Valid returns, for every string of at most 1000 bytes.
-/
import Derived.Test.YtjoaaehfplcanaaDoorRefEncode
namespace Go.Proofs.YtjoaaehfplcanaaDoor
open Go.RowKit Go.Shelf

set_option maxHeartbeats 1000000 in
set_option maxRecDepth 100000 in
theorem refvalid_any (s : ByteArray) (w : World) (hs : s.size ≤ 1000) :
    Calls Tryd.prog 38 #[.string s] w fun e w' => e = .returned (.bool (Lib.validD s.data.toList)) ∧ Below w.heap.size w w' := by
  have hvi := U8.valid_iff s.data.toList
  have cD := refdecode_fresh s w hs
  have hrg : ∀ z ∈ (U8.run s.data.toList).1, -2147483648 ≤ z ∧ z ≤ 2147483647 := U8.run_range s.data.toList
  have hol : (U8.run s.data.toList).1.length ≤ 1000 := Nat.le_trans (U8.run_out_le _) (by rw [← Lib.size_eq]; exact hs)
  have hbe := U8.bytes_encL (U8.run s.data.toList).1
  obtain ⟨V, hV⟩ : ∃ V, Lib.validD s.data.toList = V := ⟨_, rfl⟩
  rw [hV] at hvi ⊢
  generalize U8.run s.data.toList = r at hvi cD hrg hol hbe
  obtain ⟨o, q⟩ := r
  simp only at hvi cD hrg hol hbe
  have CD := Lib.hid cD
  have HV := Lib.hid hvi
  have HR := Lib.hid hrg
  have HB := Lib.hid hbe
  clear cD hvi hrg hbe hV
  by_cases hq : q = []
  · subst hq
    by_cases he : U8.encL o = s.data.toList
    · obtain rfl : V = true := HV.out.2 ⟨rfl, he⟩
      have hE : runesBytes o = s := ext_bytes (by rw [HB.out, he])
      have HE := Lib.hid hE
      clear hE he HV
      go_enter Tryd.func38, Tryd.ntmps38
      go_wp2_with fail
      refine CD.out.mono ?_
      rintro e w1 ⟨A1, n1, c1, rfl, hout⟩
      have g1 := hout.gives
      have z1 : n1 ≤ 1000 := by rw [g1.length]; exact hol
      go_wp2_with fail
      refine (refencode_any A1 n1 c1 w1.heap.size o w1 g1.1 (Nat.le_refl _) z1 HR.out).mono ?_
      rintro e w2 ⟨rfl, b2⟩
      rw [HE.out]
      go_wp2
      go_ret
      exact ⟨rfl, g1.2.2.trans (b2.mono g1.2.2.size)⟩
    · obtain rfl : V = false := by
        cases V
        · rfl
        · exact absurd (HV.out.1 rfl).2 he
      obtain ⟨E, hE⟩ : ∃ E, runesBytes o = E := ⟨_, rfl⟩
      have hne : (E.toList == s.toList) = false := by
        rw [Lib.toList_data, Lib.toList_data, ← hE, HB.out]
        simpa using he
      have HE := Lib.hid hE
      clear hE he HV
      go_enter Tryd.func38, Tryd.ntmps38
      go_wp2_with fail
      refine CD.out.mono ?_
      rintro e w1 ⟨A1, n1, c1, rfl, hout⟩
      have g1 := hout.gives
      have z1 : n1 ≤ 1000 := by rw [g1.length]; exact hol
      go_wp2_with fail
      refine (refencode_any A1 n1 c1 w1.heap.size o w1 g1.1 (Nat.le_refl _) z1 HR.out).mono ?_
      rintro e w2 ⟨rfl, b2⟩
      rw [HE.out]
      go_wp2
      go_ret
      exact ⟨rfl, g1.2.2.trans (b2.mono g1.2.2.size)⟩
  · obtain rfl : V = false := by
      cases V
      · rfl
      · exact absurd (HV.out.1 rfl).1 hq
    have hem : q.isEmpty = false := by
      cases q with
      | nil => exact absurd rfl hq
      | cons _ _ => rfl
    clear HV
    go_enter Tryd.func38, Tryd.ntmps38
    go_wp2_with fail
    refine CD.out.mono ?_
    rintro e w1 ⟨A1, n1, c1, rfl, hout⟩
    have g1 := hout.gives
    go_wp2
    go_ret
    exact ⟨rfl, g1.2.2⟩

end Go.Proofs.YtjoaaehfplcanaaDoor
