/-
  What areEqual, isReported, isEscapeSequence and isControlSequence of vtparse return.
-/
import Derived.Test.YtihfjkjbeeoanaaDoorSame
import Derived.Test.YtihfjkjbeeoanaaDoorVtMore
namespace Go.Proofs.YtihfjkjbeeoanaaDoor
open Go.RowKit

theorem u8_eq (a b : UInt8) : ((a.toNat : Int) == (b.toNat : Int)) = decide (a = b) := by
  by_cases h : a = b
  · subst h; simp
  · have h2 : a.toNat ≠ b.toNat := fun e => h (UInt8.toNat_inj.1 e)
    rw [decide_eq_false h]
    simp; omega
theorem int_eq (a b : Int) : (a == b) = decide (a = b) := by
  by_cases h : a = b
  · subst h; simp
  · rw [decide_eq_false h]; simpa using h

end Go.Proofs.YtihfjkjbeeoanaaDoor
