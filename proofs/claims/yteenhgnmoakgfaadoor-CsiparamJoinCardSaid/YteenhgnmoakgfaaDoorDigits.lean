/-
  What digits of layer 5's statements returns, for every string of at most 1000 bytes.
-/
import Derived.Test.YteenhgnmoakgfaaDoorAwake
import Derived.Test.YteenhgnmoakgfaaDoorCpMore
namespace Go.Proofs.YteenhgnmoakgfaaDoor
open Go.RowKit Go.Shelf

theorem isEmpty_of (t : ByteArray) (q : Bool) (h : t.data.toList = [] ↔ q = true) : t.toList.isEmpty = q := by
  rw [Lib.toList_data]
  cases hl : t.data.toList with
  | nil => rw [h.1 hl]; rfl
  | cons a r =>
    cases q
    · rfl
    · rw [h.2 rfl] at hl; cases hl
/-- strings.Trim at the parameter bytes: whether nothing is left. -/
theorem trim_some (s : ByteArray) (hs : s.size ≤ 1000) : ∃ t : ByteArray, t.toList.isEmpty = s.data.toList.all Cp.isPar ∧
    ∀ w, Calls Tryd.prog 36 #[.string s, .string { data := #[48, 49, 50, 51, 52, 53, 54, 55, 56, 57, 59] }] w fun e w' => e = .returned (.string t) ∧ Below w.heap.size w w' := by
  refine ⟨⟨(Lib.trimS s.data.toList [48, 49, 50, 51, 52, 53, 54, 55, 56, 57, 59]).toArray⟩, ?_, fun w => ?_⟩
  · refine isEmpty_of _ _ ?_
    have e : (⟨(Lib.trimS s.data.toList [48, 49, 50, 51, 52, 53, 54, 55, 56, 57, 59]).toArray⟩ : ByteArray).data.toList = Lib.trimS s.data.toList [48, 49, 50, 51, 52, 53, 54, 55, 56, 57, 59] := by simp
    rw [e]
    exact Cp.trim_nil _
  · exact Tryd.strings_Trim s ⟨#[48, 49, 50, 51, 52, 53, 54, 55, 56, 57, 59]⟩ w (by omega) (by decide) (ascii_of_all (by decide))

set_option maxHeartbeats 400000 in
set_option maxRecDepth 100000 in
/-- digits of a string that is not empty. -/
theorem digits_any (s : ByteArray) (w : World) (hs : s.size ≤ 1000) (hne : s.toList.isEmpty = false) :
    Calls Tryd.prog 20 #[.string s] w fun e w' => e = .returned (.bool (s.data.toList.all Cp.isPar)) ∧ Below w.heap.size w w' := by
  obtain ⟨t, ht, cT⟩ := trim_some s hs
  generalize s.data.toList.all Cp.isPar = q at ht ⊢
  have CT := Lib.hid (cT w)
  clear cT
  go_enter Tryd.func20, Tryd.ntmps20
  go_wp2_with fail
  refine CT.out.mono ?_
  rintro e w1 ⟨rfl, b1⟩
  cases q
  · go_wp2
    go_ret
    exact ⟨rfl, b1⟩
  · go_wp2
    go_ret
    exact ⟨rfl, b1⟩

theorem empty_iff (s : ByteArray) : s.toList.isEmpty = decide (s.data.toList = []) := by
  rw [Lib.toList_data]
  cases s.data.toList <;> simp

end Go.Proofs.YteenhgnmoakgfaaDoor
