/-
  What within of the document's own answers returns, in both of its states.
-/
import Derived.Test.YtihfjkjbeeoanaaDoorRefEsc
import Derived.Test.YtihfjkjbeeoanaaDoorRefSq
namespace Go.Proofs.YtihfjkjbeeoanaaDoor
open Go.RowKit

theorem refwithin_1 (pe bu : List UInt8) (b : UInt8) (w : World) (hl : bu.length ≤ 400) :
    Calls Tryd.prog 15 #[.agg #[.int .i64 1, .string (ba pe), .string (ba bu)], .int .u8 (b.toNat : Int)] w (Gone w (if 128 ≤ b.toNat then Vt.ground [] b else Vt.esc ⟨1, pe, bu⟩ b).1 (if 128 ≤ b.toNat then Vt.ground [] b else Vt.esc ⟨1, pe, bu⟩ b).2) := by
  by_cases h : 128 ≤ b.toNat
  · rw [if_pos h]
    exact refwithin_high ⟨1, pe, bu⟩ b w h
  · rw [if_neg h]
    cases hc : Vt.isCtl b
    · exact refwithin_esc pe bu b w hc (by omega) (by omega)
    · have e : Vt.esc ⟨1, pe, bu⟩ b = Vt.control ⟨1, pe, bu⟩ b := by unfold Vt.esc; rw [if_pos hc]
      rw [e]
      exact refwithin_ctl ⟨1, pe, bu⟩ b w hc
theorem refwithin_2 (pe bu : List UInt8) (b : UInt8) (w : World) (hl : bu.length ≤ 400) :
    Calls Tryd.prog 15 #[.agg #[.int .i64 2, .string (ba pe), .string (ba bu)], .int .u8 (b.toNat : Int)] w (Gone w (if 128 ≤ b.toNat then Vt.ground [] b else Vt.sq ⟨2, pe, bu⟩ b).1 (if 128 ≤ b.toNat then Vt.ground [] b else Vt.sq ⟨2, pe, bu⟩ b).2) := by
  by_cases h : 128 ≤ b.toNat
  · rw [if_pos h]
    exact refwithin_high ⟨2, pe, bu⟩ b w h
  · rw [if_neg h]
    cases hc : Vt.isCtl b
    · exact refwithin_sq pe bu b w hc (by omega) (by omega)
    · have e : Vt.sq ⟨2, pe, bu⟩ b = Vt.control ⟨2, pe, bu⟩ b := by unfold Vt.sq; rw [if_pos hc]
      rw [e]
      exact refwithin_ctl ⟨2, pe, bu⟩ b w hc

end Go.Proofs.YtihfjkjbeeoanaaDoor
