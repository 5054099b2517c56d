/-
  The statement on the styles returns true, for every two renditions, proper or not.
-/
import Derived.Test.YtodcjdglnfgdpaaDoorStylesWalk
namespace Go.Proofs.YtodcjdglnfgdpaaDoor
open Go.RowKit

set_option maxHeartbeats 1000000 in
set_option maxRecDepth 100000 in
theorem styles_walk (a b : At.R) (w : World) (hT : Tb w) :
    Calls Tryd.prog 10 #[av a, av b] w fun e w' => e = .returned (.bool true) ∧ Below w.heap.size w w' := by
  have H0 := Lib.hid (Ke.two hT a b)
  by_cases ha : At.ok a
  · by_cases hb : At.ok b
    · exact styles_main a b w hT ha hb
    · have cA := Lib.hid (fun W h => check_yes a W h ha)
      have cB := Lib.hid (fun W h => check_no b W h hb)
      obtain ⟨f, c, g⟩ := a
      obtain ⟨f', c', g'⟩ := b
      clear ha hb
      simp only at H0
      go_enter Tryd.func10, Tryd.ntmps10
      go_wp2_with fail
      refine (cA.out _ H0.out.2.2).mono ?_
      rintro e w1 ⟨rfl, b1⟩
      have H1 := Lib.hid (H0.out.below b1)
      have r1 := H1.out.rec 1 rfl
      have z0 := r1.c0
      have z1 := r1.c1
      have z2 := r1.c2
      clear b1 H0 r1
      go_wp2_with fail
      refine (cB.out w1 H1.out.2.2).mono ?_
      rintro e w2 ⟨rfl, b2⟩
      have H2 := Lib.hid (H1.out.below b2)
      clear b2 H1 z0 z1 z2
      go_wp2_with fail
      refine (awake_any w2 H2.out.2.2).mono ?_
      rintro e w3 ⟨rfl, b3⟩
      go_wp2
      go_ret
      exact ⟨rfl, (H2.out.below b3).2.1⟩
  · have cA := Lib.hid (fun W h => check_no a W h ha)
    obtain ⟨f, c, g⟩ := a
    obtain ⟨f', c', g'⟩ := b
    clear ha
    simp only at H0
    go_enter Tryd.func10, Tryd.ntmps10
    go_wp2_with fail
    refine (cA.out _ H0.out.2.2).mono ?_
    rintro e w1 ⟨rfl, b1⟩
    have H1 := Lib.hid (H0.out.below b1)
    clear b1 H0
    go_wp2_with fail
    refine (awake_any w1 H1.out.2.2).mono ?_
    rintro e w2 ⟨rfl, b2⟩
    go_wp2
    go_ret
    exact ⟨rfl, (H1.out.below b2).2.1⟩

end Go.Proofs.YtodcjdglnfgdpaaDoor
