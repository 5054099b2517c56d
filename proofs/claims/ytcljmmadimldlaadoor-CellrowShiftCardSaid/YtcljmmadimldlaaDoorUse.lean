/-
  How a statement of layer 1 uses what the functions return: slices that read as numbers, kept over later calls, and joined by append.
-/
import Derived.Test.YtcljmmadimldlaaDoorFresh
import Derived.Laws.AppendOwnNone
namespace Go.Proofs.YtcljmmadimldlaaDoor
open Go.RowKit Go.Shelf

/-- What a call that began in w leaves: a slice that reads as xs, and nothing that was there has turned. -/
def Gives (w w' : World) (A : Option Addr) (n cap : Nat) (xs : List Int) : Prop :=
  Nums w' w'.heap.size A n xs ∧ (A = none → n = 0 ∧ cap = 0) ∧ Below w.heap.size w w'
theorem Out.gives {w w' : World} {A : Option Addr} {n cap : Nat} {xs : List Int} (h : Out w w' (.slice A n cap) xs) : Gives w w' A n cap xs := by
  refine ⟨h.nums.2, fun e => ?_, h.2⟩
  subst e
  rcases h.1.2 with ⟨e, _⟩ | ⟨g, c, cur, e, _⟩
  · injection e with _ e1 e2; exact ⟨e1, e2⟩
  · injection e with e1; cases e1
theorem Gives.length {w w' : World} {A : Option Addr} {n cap : Nat} {xs : List Int} (h : Gives w w' A n cap xs) : n = xs.length := h.1.1.symm

theorem Out.reads {w0 w : World} {v : Value} {xs : List Int} (h : Out w0 w v xs) : ∃ A n cap, v = .slice A n cap ∧ Nums w w.heap.size A n xs := by
  obtain ⟨A, cap, e⟩ := h.slice
  subst e
  exact ⟨A, _, cap, rfl, h.nums.2⟩
/-- An empty slice that was just laid. -/
theorem Out.laid (w : World) : Out w (w.alloc (.cells #[] 21)) (.slice (some ⟨w.heap.size, 0, none⟩) 0 0) [] :=
  ⟨World.ownsRow_made w #[] 0 (Nat.le_refl _) (Nat.zero_le _) rfl, (Below.refl _ _).alloc (Nat.le_refl _) _⟩

end Go.Proofs.YtcljmmadimldlaaDoor
