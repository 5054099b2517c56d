/-
  What Mark and Width of charwidth return, for every number.
-/
import Derived.Test.YtcljmmadimldlaaDoorHas
namespace Go.Proofs.YtcljmmadimldlaaDoor
open Go.RowKit

set_option maxHeartbeats 400000 in
set_option maxRecDepth 100000 in
theorem mark_any (r : Int) (w : World) : Calls Tryd.prog 64 #[.int .i32 r] w fun e w' => e = .returned (.bool (Cw.hits Cw.marks r)) ∧ Below w.heap.size w w' := by
  have htab := table_of (marks_any w)
  have hlen : Cw.marks.length = 7 := rfl
  have HL := Lib.hid hlen
  clear hlen
  generalize Cw.marks = ps at htab HL ⊢
  go_enter Tryd.func64, Tryd.ntmps64
  go_wp2_with fail
  refine htab.mono ?_
  rintro e w1 ⟨rfl, hT, hb⟩
  have hcall := within_any w.heap.size 7 7 r ps w1 HL.out (by decide) hT
  clear hT htab
  go_wp2_with fail
  refine hcall.mono ?_
  rintro e w2 ⟨rfl, hb2⟩
  go_wp2
  go_ret
  exact ⟨rfl, hb.trans (hb2.mono hb.size)⟩

set_option maxHeartbeats 400000 in
set_option maxRecDepth 100000 in
theorem width_any (r : Int) (w : World) : Calls Tryd.prog 50 #[.int .i32 r] w fun e w' => e = .returned (.int .i64 (Cw.wd r)) ∧ Below w.heap.size w w' := by
  have hctl := control_any r w
  have hmark := mark_any r w
  have hwide := fun w' : World => table_of (wide_any w')
  have hlen : Cw.wide.length = 14 := rfl
  have HL := Lib.hid hlen
  clear hlen
  obtain ⟨z, hz⟩ : ∃ z, Cw.wd r = z := ⟨_, rfl⟩
  rw [hz]
  unfold Cw.wd at hz
  have HW := Lib.hid hz
  clear hz
  generalize Cw.marks = ms at hmark HW
  generalize Cw.wide = ps at hwide HL HW
  cases h1 : Cw.ctl r
  · rw [h1] at hctl HW
    cases h2 : Cw.hits ms r
    · rw [h2] at hmark HW
      cases h3 : Cw.hits ps r
      all_goals
        rw [h3] at HW
        clear h1 h2
        go_enter Tryd.func50, Tryd.ntmps50
        go_wp2_with fail
        refine hctl.mono ?_
        rintro e w0 ⟨rfl, rfl⟩
        go_wp2_with fail
        refine hmark.mono ?_
        rintro e w1 ⟨rfl, hb1⟩
        go_wp2_with fail
        refine (hwide w1).mono ?_
        rintro e w2 ⟨rfl, hT, hb2⟩
        have hcall := within_any w1.heap.size 14 14 r ps w2 HL.out (by decide) hT
        rw [h3] at hcall
        clear hT
        go_wp2_with fail
        refine hcall.mono ?_
        rintro e w3 ⟨rfl, hb3⟩
        go_wp2
        go_ret
        exact ⟨ret_int (by have := HW.out; simpa using this), (hb1.trans (hb2.mono hb1.size)).trans (hb3.mono (Nat.le_trans hb1.size hb2.size))⟩
    · rw [h2] at hmark HW
      clear h1 h2 hwide
      go_enter Tryd.func50, Tryd.ntmps50
      go_wp2_with fail
      refine hctl.mono ?_
      rintro e w0 ⟨rfl, rfl⟩
      go_wp2_with fail
      refine hmark.mono ?_
      rintro e w1 ⟨rfl, hb1⟩
      go_wp2
      go_ret
      exact ⟨ret_int (by have := HW.out; simpa using this), hb1⟩
  · rw [h1] at hctl HW
    clear h1 hmark hwide
    go_enter Tryd.func50, Tryd.ntmps50
    go_wp2_with fail
    refine hctl.mono ?_
    rintro e w0 ⟨rfl, rfl⟩
    go_wp2
    go_ret
    exact ⟨ret_int (by have := HW.out; simpa using this), Below.refl _ _⟩

end Go.Proofs.YtcljmmadimldlaaDoor
