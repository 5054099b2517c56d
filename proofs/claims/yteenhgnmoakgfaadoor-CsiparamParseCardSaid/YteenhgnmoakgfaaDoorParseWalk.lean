/-
  The statement that Parse returns the result of the document's own function returns true, for every string.
-/
import Derived.Test.YteenhgnmoakgfaaDoorCpMore
import Derived.Test.YteenhgnmoakgfaaDoorAwake
import Derived.Test.YteenhgnmoakgfaaDoorRefParseWalk
namespace Go.Proofs.YteenhgnmoakgfaaDoor
open Go.RowKit Go.Shelf

set_option maxHeartbeats 1000000 in
set_option maxRecDepth 100000 in
theorem parse_walk (s : ByteArray) (w : World) (hs : s.size ≤ 140737488351232) (hP : Pw w) :
    Calls Tryd.prog 3 #[.string s] w fun e w' => e = .returned (.bool true) ∧ Below w.heap.size w w' := by
  by_cases hbig : 200 < s.size
  · have hbz : (200 : Int) < (s.size : Int) := by omega
    have cA := Lib.hid (awake_true w hP)
    go_enter Tryd.func3, Tryd.ntmps3
    go_wp2_with fail
    refine cA.out.mono ?_
    rintro e w1 ⟨rfl, hb⟩
    go_wp2
    go_ret
    exact ⟨rfl, hb⟩
  · have hbz : ¬ (200 : Int) < (s.size : Int) := by omega
    obtain ⟨p, ps, i, er, hp⟩ : ∃ p ps i er, Cp.parse s.data.toList = (p, ps, i, er) := ⟨_, _, _, _, rfl⟩
    have hpl : ps.length ≤ 16 := by
      by_cases he : er = 0
      · subst he
        exact (Cp.parse_len hp).1
      · obtain ⟨_, rfl, _⟩ := Cp.parse_err hp he
        exact Nat.zero_le _
    have c1 := Lib.hid (parse_any s w (by omega) hp)
    have HP := Lib.hid hp
    clear hp
    go_enter Tryd.func3, Tryd.ntmps3
    go_wp2_with fail
    refine c1.out.mono ?_
    rintro e w1 ⟨A1, n1, k1, u, rfl, hu, g1⟩
    have b1 := g1.2.2
    have P1 := hP.below b1
    have c2 := Lib.hid (refparse_any s w1 (by omega) HP.out)
    have G1 := Lib.hid g1.1
    have HU := Lib.hid hu
    clear g1 c1 hu
    go_wp2_with fail
    refine c2.out.mono ?_
    rintro e w2 ⟨A2, n2, k2, v, rfl, hv, g2⟩
    obtain rfl : v = u := ext_bytes (by rw [hv, HU.out])
    have b2 := g2.2.2
    have P2 := P1.below b2
    have B2 := Lib.hid (b1.trans (b2.mono b1.size))
    have c3 := Lib.hid (same_yes A1 A2 n1 n2 k1 k2 w1.heap.size w2.heap.size ps w2 (by omega) (G1.out.below b2 (Nat.le_refl _)) g2.1)
    clear c2 hv g2 b1 b2 P1 G1
    go_wp2_with fail
    refine c3.out.mono ?_
    rintro e w3 ⟨rfl, b3⟩
    have cA := Lib.hid (awake_true w3 (P2.below b3))
    have B3 := Lib.hid (B2.out.trans (b3.mono B2.out.size))
    clear c3 b3 B2 P2
    go_wp2_with fail
    refine cA.out.mono ?_
    rintro e w4 ⟨rfl, b4⟩
    go_wp2
    go_ret
    exact ⟨rfl, B3.out.trans (b4.mono B3.out.size)⟩

end Go.Proofs.YteenhgnmoakgfaaDoor
