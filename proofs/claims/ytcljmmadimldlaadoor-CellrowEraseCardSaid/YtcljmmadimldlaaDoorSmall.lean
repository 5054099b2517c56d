/-
  The small functions of layer 1's statements: what mayFollow, sequenceLength and Same return, for every argument; a slice of numbers that is read.
-/
import Derived.Test.YtcljmmadimldlaaDoorProg
import Derived.Test.YtcljmmadimldlaaDoorUMath
import Derived.WalkKit
import Derived.WalkSpells
import Derived.WalkLawsBesides
import Derived.BigQuiet
import Derived.Deep.QuietTactic
import Derived.Deep.Draws
import Derived.Lib.Hide
import Derived.Deep.Light
import Derived.Deep.LoopGhost
namespace Go.Proofs.YtcljmmadimldlaaDoor
open Go.RowKit

/-- The slice of length n at A reads, in the world w, as the numbers xs, and lies below block B. -/
def Nums (w : World) (B : Nat) (A : Option Addr) (n : Nat) (xs : List Int) : Prop :=
  xs.length = n ∧ ∀ j, j < n → ∃ b off, A = some ⟨b, off, none⟩ ∧ b < B ∧ w.cell? ⟨b, off + j, none⟩ = some (.int .i32 (xs.getD j 0))

theorem Nums.keep {w w' : World} {B : Nat} {A : Option Addr} {n : Nat} {xs : List Int} (h : Nums w B A n xs) (hk : ∀ b o, b < B → w'.cell? ⟨b, o, none⟩ = w.cell? ⟨b, o, none⟩) : Nums w' B A n xs :=
  ⟨h.1, fun j hj => by
    obtain ⟨b, off, e, hb, hc⟩ := h.2 j hj
    exact ⟨b, off, e, hb, (hk b _ hb).trans hc⟩⟩
theorem Nums.below {w w' : World} {B B' : Nat} {A : Option Addr} {n : Nat} {xs : List Int} (h : Nums w B A n xs) (hb : Below B' w w') (hB : B ≤ B') : Nums w' B A n xs :=
  h.keep fun b o hlt => hb.cell (p := ⟨b, o, none⟩) (Nat.lt_of_lt_of_le hlt hB)
theorem Nums.more {w : World} {B B' : Nat} {A : Option Addr} {n : Nat} {xs : List Int} (h : Nums w B A n xs) (hB : B ≤ B') : Nums w B' A n xs :=
  ⟨h.1, fun j hj => by
    obtain ⟨b, off, e, hb, hc⟩ := h.2 j hj
    exact ⟨b, off, e, by omega, hc⟩⟩
theorem Nums.alloc {w : World} {B : Nat} {A : Option Addr} {n : Nat} {xs : List Int} (h : Nums w B A n xs) (hB : B ≤ w.heap.size) (o : Obj) : Nums (w.alloc o) B A n xs :=
  h.keep fun b _ hlt => World.cell?_alloc_lt w o _ (by show b < w.heap.size; omega)
theorem Nums.drewN {w : World} {B : Nat} {A : Option Addr} {n : Nat} {xs : List Int} (h : Nums w B A n xs) (k : Nat) : Nums (w.drewN k) B A n xs := h
theorem Nums.of_own {w : World} {base : Nat} {e : TypeId} {A : Option Addr} {n c : Nat} {xs : List Int} (h : w.ownsRow base e 1 (.slice A n c) n (xs.map (Value.int .i32))) : Nums w w.heap.size A n xs := by
  have hl : xs.length = n := by have := h.1; simpa using this
  refine ⟨hl, fun j hj => ?_⟩
  rcases h.2 with ⟨_, h0⟩ | ⟨g, cap, cur, hv, _, hh, _, _, _, ht⟩
  · omega
  · have hA : A = some ⟨g, 0, none⟩ := by injection hv
    have hg : g < w.heap.size := by
      rcases Nat.lt_or_ge g w.heap.size with hlt | hge
      · exact hlt
      · rw [Array.getElem?_eq_none hge] at hh; cases hh
    refine ⟨g, 0, hA, hg, ?_⟩
    have hc : cur[j]? = some (.int .i32 (xs.getD j 0)) := by
      have e1 := congrArg (fun l : List Value => l[j]?) ht
      simp only [Nat.mul_one, List.getElem?_take, if_pos hj, Array.getElem?_toList, List.getElem?_map] at e1
      rw [e1, List.getElem?_eq_getElem (by omega), List.getD_eq_getElem?_getD, List.getElem?_eq_getElem (by omega)]
      rfl
    rw [Nat.zero_add]
    simp [World.cell?, hh, hc]

theorem ret_int {k : IntKind} {a b : Int} (h : a = b) : Ending.returned (.int k a) = .returned (.int k b) := by rw [h]
theorem ret_bool {a b : Bool} (h : a = b) : Ending.returned (.bool a) = .returned (.bool b) := by rw [h]

end Go.Proofs.YtcljmmadimldlaaDoor
