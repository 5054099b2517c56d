/-
  The small functions of layer 1's statements: what mayFollow and sequenceLength return, for every argument; a slice of numbers that is read.
-/
import Derived.Test.YtihfjkjbeeoanaaDoorProg
import Derived.Test.YtihfjkjbeeoanaaDoorUMath
import Derived.WalkKit
import Derived.WalkSpells
import Derived.WalkLawsBesides
import Derived.BigQuiet
import Derived.Deep.QuietTactic
import Derived.Deep.Draws
import Derived.Lib.Hide
import Derived.Deep.Light
import Derived.Deep.LoopGhost
namespace Go.Proofs.YtihfjkjbeeoanaaDoor
open Go.RowKit

/-- The slice of length n at A reads, in the world w, as the numbers xs, and lies below block B. -/
def Nums (w : World) (B : Nat) (A : Option Addr) (n : Nat) (xs : List Int) : Prop :=
  xs.length = n ∧ ∀ j, j < n → ∃ b off, A = some ⟨b, off, none⟩ ∧ b < B ∧ w.cell? ⟨b, off + j, none⟩ = some (.int .i32 (xs.getD j 0))

theorem Nums.keep {w w' : World} {B : Nat} {A : Option Addr} {n : Nat} {xs : List Int} (h : Nums w B A n xs) (hk : ∀ b o, b < B → w'.cell? ⟨b, o, none⟩ = w.cell? ⟨b, o, none⟩) : Nums w' B A n xs :=
  ⟨h.1, fun j hj => by
    obtain ⟨b, off, e, hb, hc⟩ := h.2 j hj
    exact ⟨b, off, e, hb, (hk b _ hb).trans hc⟩⟩
theorem Nums.below {w w' : World} {B B' : Nat} {A : Option Addr} {n : Nat} {xs : List Int} (h : Nums w B A n xs) (hb : Below B' w w') (hB : B ≤ B') : Nums w' B A n xs :=
  h.keep fun b o hlt => hb.cell (p := ⟨b, o, none⟩) (Nat.lt_of_lt_of_le hlt hB)
theorem Nums.more {w : World} {B B' : Nat} {A : Option Addr} {n : Nat} {xs : List Int} (h : Nums w B A n xs) (hB : B ≤ B') : Nums w B' A n xs :=
  ⟨h.1, fun j hj => by
    obtain ⟨b, off, e, hb, hc⟩ := h.2 j hj
    exact ⟨b, off, e, by omega, hc⟩⟩
theorem Nums.alloc {w : World} {B : Nat} {A : Option Addr} {n : Nat} {xs : List Int} (h : Nums w B A n xs) (hB : B ≤ w.heap.size) (o : Obj) : Nums (w.alloc o) B A n xs :=
  h.keep fun b _ hlt => World.cell?_alloc_lt w o _ (by show b < w.heap.size; omega)
theorem Nums.drewN {w : World} {B : Nat} {A : Option Addr} {n : Nat} {xs : List Int} (h : Nums w B A n xs) (k : Nat) : Nums (w.drewN k) B A n xs := h
theorem Nums.of_own {w : World} {base : Nat} {e : TypeId} {A : Option Addr} {n c : Nat} {xs : List Int} (h : w.ownsRow base e 1 (.slice A n c) n (xs.map (Value.int .i32))) : Nums w w.heap.size A n xs := by
  have hl : xs.length = n := by have := h.1; simpa using this
  refine ⟨hl, fun j hj => ?_⟩
  rcases h.2 with ⟨_, h0⟩ | ⟨g, cap, cur, hv, _, hh, _, _, _, ht⟩
  · omega
  · have hA : A = some ⟨g, 0, none⟩ := by injection hv
    have hg : g < w.heap.size := by
      rcases Nat.lt_or_ge g w.heap.size with hlt | hge
      · exact hlt
      · rw [Array.getElem?_eq_none hge] at hh; cases hh
    refine ⟨g, 0, hA, hg, ?_⟩
    have hc : cur[j]? = some (.int .i32 (xs.getD j 0)) := by
      have e1 := congrArg (fun l : List Value => l[j]?) ht
      simp only [Nat.mul_one, List.getElem?_take, if_pos hj, Array.getElem?_toList, List.getElem?_map] at e1
      rw [e1, List.getElem?_eq_getElem (by omega), List.getD_eq_getElem?_getD, List.getElem?_eq_getElem (by omega)]
      rfl
    rw [Nat.zero_add]
    simp [World.cell?, hh, hc]

theorem ret_int {k : IntKind} {a b : Int} (h : a = b) : Ending.returned (.int k a) = .returned (.int k b) := by rw [h]
theorem ret_bool {a b : Bool} (h : a = b) : Ending.returned (.bool a) = .returned (.bool b) := by rw [h]

set_option maxHeartbeats 400000 in
set_option maxRecDepth 100000 in
theorem seqLen_any (c : Nat) (hc : c < 256) (w : World) :
    Calls Tryd.prog 31 #[.int .u8 (c : Int)] w fun e w' => e = .returned (.int .i64 (U8.seqLen c : Nat)) ∧ w' = w := by
  obtain ⟨r, hr⟩ : ∃ r, U8.seqLen c = r := ⟨_, rfl⟩
  rw [hr]
  unfold U8.seqLen at hr
  have hR := Lib.hid hr
  clear hr
  go_enter Tryd.func31, Tryd.ntmps31
  go_wp2
  all_goals
    have hr := hR.out
    clear hR
    go_ret
    refine ⟨ret_int ?_, rfl⟩
    repeat' split at hr
    all_goals omega

set_option maxHeartbeats 400000 in
set_option maxRecDepth 100000 in
theorem mayF_any (t : ByteArray) (c : Nat) (h0 : 0 < t.size) (hc : c < 256) (hs : t.size ≤ 1000) (w : World) :
    Calls Tryd.prog 30 #[.string t, .int .u8 (c : Int)] w fun e w' => e = .returned (.bool (U8.mayF t.data.toList c)) ∧ w' = w := by
  obtain ⟨r, hr⟩ : ∃ r, U8.mayF t.data.toList c = r := ⟨_, rfl⟩
  rw [hr]
  obtain ⟨f, hf⟩ : ∃ f, t[0].toNat = f := ⟨_, rfl⟩
  have hff : U8.first t.data.toList = f := by
    rw [← hf]
    obtain ⟨⟨l⟩⟩ := t
    cases l with
    | nil => exact absurd h0 (by decide)
    | cons a l => rfl
  have hl : t.data.toList.length = t.size := rfl
  unfold U8.mayF U8.low U8.high at hr
  rw [hff, hl] at hr
  have hR := Lib.hid hr
  have hfl : f < 256 := by rw [← hf]; exact UInt8.toNat_lt _
  clear hr hff hl
  have h0z : (0 : Int) < (t.size : Int) := by omega
  go_enter Tryd.func30, Tryd.ntmps30
  go_wp2
  all_goals
    have hr := hR.out
    clear hR
    go_ret
    refine ⟨ret_bool ?_, rfl⟩
    go_light
    try simp only [beq_iff_eq, beq_eq_false_iff_ne, ne_eq] at *
    rw [← hr, Bool.eq_iff_iff]
    simp only [Bool.and_eq_true, decide_eq_true_eq, Bool.false_eq_true, false_iff]
    repeat' split
    all_goals omega

end Go.Proofs.YtihfjkjbeeoanaaDoor
