/-
  What slices.Clone, slices.Max (of three numbers), withoutNegatives and denotedColor return.
-/
import Derived.Test.YtdeicbciiabdfaaDoorNums
namespace Go.Proofs.YtdeicbciiabdfaaDoor
open Go.RowKit

set_option maxHeartbeats 1000000 in
set_option maxRecDepth 100000 in
theorem clone_any (A : Option Addr) (n c B : Nat) (xs : List Int) (w : World) (hB : B ≤ w.heap.size) (hX : Nums w B A n xs) (hnil : A = none → n = 0 ∧ c = 0) (hn : n ≤ 1000) :
    Calls Tryd.prog 19 #[.slice A n c] w fun e w' => ∃ v, e = .returned v ∧ Out w w' v xs := by
  have q24 : ∀ (w : World) (a : Option Addr) (n c n' c' : Nat), (binOp .eql 28 (.slice a n c) (.slice none n' c')).run Tryd.prog w = .ok (.bool a.isNone) w := fun w a n c n' c' => Lib.run_eql_slice_nil w _ _ a n c n' c' Tryd.underlying28
  cases A with
  | none =>
    obtain ⟨rfl, rfl⟩ := hnil rfl
    have hxs : xs = [] := List.eq_nil_of_length_eq_zero hX.1
    subst hxs
    clear hX hnil
    go_enter Tryd.func19, Tryd.ntmps19
    go_wp2
    go_ret
    exact ⟨_, rfl, Out.start w⟩
  | some ad =>
    have HX := Lib.hid hX
    have hlx := hX.1
    have HL := Lib.hid hlx
    clear hX hlx hnil
    go_enter Tryd.func19, Tryd.ntmps19
    have hl : ([] : List Int).length + xs.length ≤ 100000 := by have := HL.out; simp; omega
    have hx' : Hid (∀ o, Nums (w.alloc o) B (some ad) n xs) := Lib.hid fun o => HX.out.alloc hB o
    have ho : Hid (Out w (w.alloc (.cells #[] 3)) (.slice (some ⟨w.heap.size, 0, none⟩) 0 0) []) := Lib.hid (Out.laid w)
    have hnn : (some ad : Option Addr) = none → n = 0 ∧ c = 0 := fun e => by cases e
    go_wp2_with (at_builtin; refine wpList_join rfl (.tmp 5) (.tmp 6) rfl w _ _ [] xs (some ad) n c B rfl rfl ho.out (hx'.out _) hnn hl ?_; intro v4 w4 hout4; rw [List.nil_append] at hout4)
    go_ret
    exact ⟨_, rfl, hout4⟩

theorem max_spell (a b : Int) : (if a < b then b else a) = max a b := by split <;> omega
/-- The greatest of the first numbers of three. -/
def mx (x y z : Int) (k : Nat) : Int := if k = 1 then x else if k = 2 then max x y else max (max x y) z

set_option maxHeartbeats 1000000 in
set_option maxRecDepth 100000 in
theorem max3_any (b off c : Nat) (x y z : Int) (w : World) (h0 : w.cell? ⟨b, off, none⟩ = some (.int .i64 x)) (h1 : w.cell? ⟨b, off + 1, none⟩ = some (.int .i64 y)) (h2 : w.cell? ⟨b, off + 2, none⟩ = some (.int .i64 z)) :
    Calls Tryd.prog 20 #[.slice (some ⟨b, off, none⟩) 3 c] w fun e w' => e = .returned (.int .i64 (max (max x y) z)) ∧ w = w' := by
  go_enter Tryd.func20, Tryd.ntmps20
  go_wp2
  go_loop [3, 4] (fun m i => ∃ k : Nat, 0 < k ∧ k ≤ 3 ∧ i = .int .i64 k ∧ m = .int .i64 (mx x y z k)) (fun _ i => match i with | .int _ q => 3 - q.toNat | _ => 0)
  case atStart => exact ⟨1, by omega, by omega, rfl, rfl⟩
  case round =>
    obtain ⟨k, hk0, hk, rfl, rfl⟩ := hrel
    obtain rfl | rfl | rfl : k = 1 ∨ k = 2 ∨ k = 3 := by omega
    · go_wp2
      exact ⟨⟨2, by omega, by omega, by rfl, by rw [max_spell]; rfl⟩, by decide⟩
    · go_wp2
      exact ⟨⟨3, by omega, by omega, by rfl, by rw [max_spell]; rfl⟩, by decide⟩
    · go_wp2
      go_ret
      exact ⟨by simp [mx], rfl⟩

end Go.Proofs.YtdeicbciiabdfaaDoor
