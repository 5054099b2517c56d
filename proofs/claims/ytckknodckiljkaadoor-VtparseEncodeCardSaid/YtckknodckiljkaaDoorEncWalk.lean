/-
  What utf8stream.Encode returns.
-/
import Derived.Test.YtckknodckiljkaaDoorUse
import Derived.Test.YtckknodckiljkaaDoorEncThree
namespace Go.Proofs.YtckknodckiljkaaDoor
open Go.RowKit Go.Shelf

theorem run_runes_string (W : World) (B : Nat) (A : Option Addr) (n c : Nat) (xs : List Int) (h : Nums W B A n xs) : (convert 48 9 (.slice A n c)).run Tryd.prog W = .ok (.string (runesBytes xs)) W := by
  cases A with
  | none =>
    have hx : xs = [] := by
      rcases Nat.eq_zero_or_pos n with h0 | h0
      · exact List.eq_nil_of_length_eq_zero (h.1.trans h0)
      · obtain ⟨b, off, e, _⟩ := h.2 0 h0; cases e
    subst hx
    exact run_convert_runes_nil W 48 9 21 n c Tryd.underlying48 Tryd.underlying21 Tryd.underlying9
  | some ad =>
    have hc : ∀ j, j < xs.length → W.cell? (ad.add j) = some (.int .i32 (xs.getD j 0)) := fun j hj => by
      obtain ⟨b, off, e, _, hc⟩ := h.2 j (by rw [← h.1]; exact hj)
      injection e with e
      subst e
      by_cases h0 : j = 0
      · subst h0; simpa [Addr.add] using hc
      · simpa [Addr.add, h0] using hc
    have := run_convert_runes (P := Tryd.prog) W 48 9 21 ad n c xs (by rw [h.1]; exact Nat.le_refl _) Tryd.underlying48 Tryd.underlying21 Tryd.underlying9 hc
    rw [List.take_of_length_le (by rw [h.1]; exact Nat.le_refl _)] at this
    exact this

theorem encode_any (A : Option Addr) (n c B : Nat) (xs : List Int) (w : World) (h : Nums w B A n xs) :
    Calls Tryd.prog 31 #[.slice A n c] w fun e w' => e = .returned (.string (runesBytes xs)) ∧ w = w' := by
  have hr := run_runes_string w B A n c xs h
  generalize runesBytes xs = t at hr
  go_enter Tryd.func31, Tryd.ntmps31
  go_wp2
  go_ret
  exact ⟨rfl, rfl⟩

end Go.Proofs.YtckknodckiljkaaDoor
