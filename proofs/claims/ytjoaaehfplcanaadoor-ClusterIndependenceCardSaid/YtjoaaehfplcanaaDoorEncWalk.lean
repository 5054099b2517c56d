/-
  What utf8stream.Encode and utf8stream.Valid return.
-/
import Derived.Test.YtjoaaehfplcanaaDoorUse
import Derived.Test.YtjoaaehfplcanaaDoorEncThree
namespace Go.Proofs.YtjoaaehfplcanaaDoor
open Go.RowKit Go.Shelf

theorem run_runes_string (W : World) (B : Nat) (A : Option Addr) (n c : Nat) (xs : List Int) (h : Nums W B A n xs) : (convert 22 9 (.slice A n c)).run Tryd.prog W = .ok (.string (runesBytes xs)) W := by
  cases A with
  | none =>
    have hx : xs = [] := by
      rcases Nat.eq_zero_or_pos n with h0 | h0
      · exact List.eq_nil_of_length_eq_zero (h.1.trans h0)
      · obtain ⟨b, off, e, _⟩ := h.2 0 h0; cases e
    subst hx
    exact run_convert_runes_nil W 22 9 21 n c Tryd.underlying22 Tryd.underlying21 Tryd.underlying9
  | some ad =>
    have hc : ∀ j, j < xs.length → W.cell? (ad.add j) = some (.int .i32 (xs.getD j 0)) := fun j hj => by
      obtain ⟨b, off, e, _, hc⟩ := h.2 j (by rw [← h.1]; exact hj)
      injection e with e
      subst e
      by_cases h0 : j = 0
      · subst h0; simpa [Addr.add] using hc
      · simpa [Addr.add, h0] using hc
    have := run_convert_runes (P := Tryd.prog) W 22 9 21 ad n c xs (by rw [h.1]; exact Nat.le_refl _) Tryd.underlying22 Tryd.underlying21 Tryd.underlying9 hc
    rw [List.take_of_length_le (by rw [h.1]; exact Nat.le_refl _)] at this
    exact this

theorem encode_any (A : Option Addr) (n c B : Nat) (xs : List Int) (w : World) (h : Nums w B A n xs) :
    Calls Tryd.prog 30 #[.slice A n c] w fun e w' => e = .returned (.string (runesBytes xs)) ∧ w = w' := by
  have hr := run_runes_string w B A n c xs h
  generalize runesBytes xs = t at hr
  go_enter Tryd.func30, Tryd.ntmps30
  go_wp2
  go_ret
  exact ⟨rfl, rfl⟩

theorem valid_any (s : ByteArray) (w : World) (hs : s.size ≤ 140737488351232) (hT : Lib.Utf8Tabs 0 1 w) :
    Calls Tryd.prog 52 #[.string s] w fun e w' => e = .returned (.bool (Lib.validD s.data.toList)) ∧ Below w.heap.size w w' := by
  have cV := Lib.hid (Tryd.utf8_ValidString s w (by omega) hT)
  go_enter Tryd.func52, Tryd.ntmps52
  go_wp2_with (go_at_call 61; refine cV.out.mono ?_; rintro e w1 ⟨rfl, hb⟩)
  go_ret
  exact ⟨rfl, hb⟩

end Go.Proofs.YtjoaaehfplcanaaDoor
