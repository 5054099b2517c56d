/-
  The examples of the chapter hold: the function awake of layer 2's statements returns true.
-/
import Derived.Test.YtllkafgmacngjaaWidth
namespace Go.Proofs.Ytllkafgmacngjaa
open Go.RowKit

set_option maxHeartbeats 400000 in
set_option maxRecDepth 100000 in
theorem awake_any (w : World) : Calls Try.prog 15 #[] w fun e w' => e = .returned (.bool true) ∧ Below w.heap.size w w' := by
  have h1 := fun w => width_any 97 w
  have h2 := fun w => width_any 28450 w
  have h3 := fun w => width_any 769 w
  have h4 := fun w => width_any 10 w
  have h5 := fun w => mark_any 769 w
  rw [show Cw.wd 97 = 1 from by decide] at h1
  rw [show Cw.wd 28450 = 2 from by decide] at h2
  rw [show Cw.wd 769 = 0 from by decide] at h3
  rw [show Cw.wd 10 = -1 from by decide] at h4
  rw [show Cw.hits Cw.marks 769 = true from by decide] at h5
  go_enter Try.func15, Try.ntmps15
  go_wp2_with fail
  refine (h1 w).mono ?_
  rintro e w1 ⟨rfl, b1⟩
  go_wp2_with fail
  refine (h2 w1).mono ?_
  rintro e w2 ⟨rfl, b2⟩
  go_wp2_with fail
  refine (h3 w2).mono ?_
  rintro e w3 ⟨rfl, b3⟩
  go_wp2_with fail
  refine (h4 w3).mono ?_
  rintro e w4 ⟨rfl, b4⟩
  go_wp2_with fail
  refine (h5 w4).mono ?_
  rintro e w5 ⟨rfl, b5⟩
  go_wp2
  go_ret
  have s1 := b1.size
  have s2 := b2.size
  have s3 := b3.size
  have s4 := b4.size
  exact ⟨rfl, (((b1.trans (b2.mono (by omega))).trans (b3.mono (by omega))).trans (b4.mono (by omega))).trans (b5.mono (by omega))⟩

end Go.Proofs.Ytllkafgmacngjaa
