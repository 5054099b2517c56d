/-
  What Check of vtparse returns, for every event.
-/
import Derived.Test.YtihfjkjbeeoanaaDoorEqual
namespace Go.Proofs.YtihfjkjbeeoanaaDoor
open Go.RowKit

/-- What an event among the arguments is: its parameters are read, and its lengths fit. -/
def EvOk (w : World) (g : G) : Prop := Ci.Nums w w.heap.size g.A g.n g.e.ps ∧ g.n ≤ 9223372036854775807 ∧ g.e.i.length ≤ 9223372036854775807 ∧ g.e.t.length ≤ 9223372036854775807 ∧ ∀ z ∈ g.e.ps, -9223372036854775808 ≤ z ∧ z ≤ 9223372036854775807
theorem EvOk.below {w w' : World} {g : G} (h : EvOk w g) (hb : Below w.heap.size w w') : EvOk w' g := ⟨(h.1.below hb (Nat.le_refl _)).more hb.size, h.2⟩
theorem isCommand_wide (l : List UInt8) (w : World) (hl : l.length ≤ 9223372036854775807) :
    Calls Tryd.prog 20 #[.string (ba l)] w fun e w' => e = .returned (.bool (Vt.cmdOk l)) ∧ w = w' := by
  by_cases h : l.length ≤ 1000
  · exact isCommand_any l w h
  · have hbs : (ba l).size = l.length := ba_size l
    have hz : ¬ ((ba l).size : Int) ≤ 256 := by omega
    have hd : Vt.cmdOk l = false := by
      unfold Vt.cmdOk
      rw [decide_eq_false (by omega)]
      rfl
    rw [hd]
    clear hbs hd
    go_enter Tryd.func20, Tryd.ntmps20
    go_wp2
    go_ret
    exact ⟨rfl, rfl⟩
theorem nil_iff {w : World} {B : Nat} {A : Option Addr} {n : Nat} {xs : List Int} (h : Ci.Nums w B A n xs) : decide (n = 0) = decide (xs = []) := by
  have := h.1
  refine decide_eq_decide.2 ⟨fun e => List.eq_nil_of_length_eq_zero (by omega), fun e => by rw [e] at this; exact this.symm⟩

end Go.Proofs.YtihfjkjbeeoanaaDoor
