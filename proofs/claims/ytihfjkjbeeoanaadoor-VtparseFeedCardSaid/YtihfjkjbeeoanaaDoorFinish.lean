/-
  What utf8stream.Finish returns, for every string of at most 1000 bytes.
-/
import Derived.Test.YtihfjkjbeeoanaaDoorUse
namespace Go.Proofs.YtihfjkjbeeoanaaDoor
open Go.RowKit Go.Shelf

/-- What Finish leaves. -/
def Ended (w : World) (xs : List Int) (e : Ending) (w' : World) : Prop :=
  ∃ A cap, e = .returned (.slice A xs.length cap) ∧ Out w w' (.slice A xs.length cap) xs

set_option maxHeartbeats 400000 in
set_option maxRecDepth 100000 in
theorem finish_any (p : ByteArray) (w : World) (hsz : p.size ≤ 1000) (hT : Lib.Utf8Tabs 0 1 w) :
    Calls Tryd.prog 39 #[.string p] w (Ended w (U8.ended p.data.toList)) := by
  have cD := decode_fresh p w hsz hT
  have hle := U8.run_out_le p.data.toList
  rw [← Lib.size_eq] at hle
  have HE : Hid (U8.ended p.data.toList = if (U8.run p.data.toList).2 = [] then (U8.run p.data.toList).1 else (U8.run p.data.toList).1 ++ [65533]) := Lib.hid rfl
  obtain ⟨x, hx⟩ : ∃ x, U8.ended p.data.toList = x := ⟨_, rfl⟩
  rw [hx] at HE ⊢
  unfold Decoded at cD
  generalize U8.run p.data.toList = r at cD HE hle
  obtain ⟨o, q⟩ := r
  simp only at cD hle
  have HE2 : Hid (x = if q = [] then o else o ++ [65533]) := HE
  have HD := Lib.hid cD
  clear cD HE hx
  by_cases hq : q = []
  · subst hq
    go_enter Tryd.func39, Tryd.ntmps39
    go_wp2_with (go_at_call 18; refine HD.out.mono ?_; rintro e w1 ⟨A, cap, rfl, hout⟩)
    go_ret
    obtain rfl : x = o := by simpa using HE2.out
    exact ⟨A, cap, rfl, hout⟩
  · have hne : (!q.isEmpty) = true := by
      cases q with
      | nil => exact absurd rfl hq
      | cons a l => rfl
    go_enter Tryd.func39, Tryd.ntmps39
    go_wp2_with (first | (go_at_call 18; refine HD.out.mono ?_; rintro e w1 ⟨A, cap, rfl, hout⟩) | (at_builtin; refine wpList_push rfl (.tmp 12) (.tmp 13) rfl w w1 _ o 65533 rfl rfl hout (by omega) ?_; intro v1 w2 hout2))
    go_ret
    have e : x = o ++ [65533] := by rw [HE2.out, if_neg hq]
    obtain ⟨A2, cap2, hA⟩ := hout2.slice
    unfold Ended
    rw [e]
    rw [hA] at hout2 ⊢
    exact ⟨A2, cap2, rfl, hout2⟩

theorem finish_gives (p : ByteArray) (w : World) (hsz : p.size ≤ 1000) (hT : Lib.Utf8Tabs 0 1 w) :
    Calls Tryd.prog 39 #[.string p] w fun e w' => ∃ A n cap, e = .returned (.slice A n cap) ∧ Gives w w' A n cap (U8.ended p.data.toList) :=
  (finish_any p w hsz hT).mono fun _ _ ⟨A, cap, he, h⟩ => ⟨A, _, cap, he, h.gives⟩

end Go.Proofs.YtihfjkjbeeoanaaDoor
