/-
  The statement on Total and the document's own Total returns true, for every slice of numbers.
-/
import Derived.Test.YtllkafgmacngjaaAwake
import Derived.Test.YtllkafgmacngjaaRefTotal
namespace Go.Proofs.Ytllkafgmacngjaa
open Go.RowKit

set_option maxHeartbeats 400000 in
set_option maxRecDepth 100000 in
theorem total_walk (A : Option Addr) (n c : Nat) (xs : List Int) (w : World) (hX : Nums w w.heap.size A n xs) (_ : A = none → n = 0 ∧ c = 0) (hn : n ≤ 140737488351232) (_ : ∀ z ∈ xs, -2147483648 ≤ z ∧ z ≤ 2147483647) :
    Calls Try.prog 4 #[.slice A n c] w fun e w' => e = .returned (.bool true) ∧ Below w.heap.size w w' := by
  by_cases hbig : 200 < n
  · have hbz : (200 : Int) < (n : Int) := by omega
    clear hX
    go_enter Try.func4, Try.ntmps4
    go_wp2_with fail
    refine (awake_any w).mono ?_
    rintro e w1 ⟨rfl, hb⟩
    go_wp2
    go_ret
    exact ⟨rfl, hb⟩
  · have hbz : ¬ (200 : Int) < (n : Int) := by omega
    have h1 := total_any A n c w.heap.size xs w (Nat.le_refl _) hX (by omega)
    have h2 := fun (w1 : World) (b : Below w.heap.size w w1) => refTotal_any A n c w.heap.size xs w1 b.size (hX.below b (Nat.le_refl _)) (by omega)
    clear hX
    generalize Cw.total xs = z at h1 h2
    have e1 : (z == z) = true := by simp
    go_enter Try.func4, Try.ntmps4
    go_wp2_with fail
    refine h1.mono ?_
    rintro e w1 ⟨rfl, b1⟩
    go_wp2_with fail
    refine (h2 w1 b1).mono ?_
    rintro e w2 ⟨rfl, b2⟩
    go_wp2_with fail
    refine (awake_any w2).mono ?_
    rintro e w3 ⟨rfl, b3⟩
    go_wp2
    go_ret
    have s1 := b1.size
    have s2 := b2.size
    exact ⟨rfl, (b1.trans (b2.mono (by omega))).trans (b3.mono (by omega))⟩

end Go.Proofs.Ytllkafgmacngjaa
