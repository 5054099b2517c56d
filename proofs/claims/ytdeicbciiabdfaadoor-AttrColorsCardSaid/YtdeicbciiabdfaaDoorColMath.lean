/-
  What the numbers of one color do to a rendition: a color by its three components, and a color by its number.
-/
import Derived.Test.YtdeicbciiabdfaaDoorAtMore
namespace Go.Proofs.YtdeicbciiabdfaaDoor.At
open Go

/-- The color of three components. -/
def rgb (x y z : Int) : Int := 16 + 36 * lv x + 6 * lv y + lv z
theorem put_back (a : R) (bk : Bool) (z : Int) : put a (if bk then 48 else 38) z = if bk then ⟨a.f, z, a.g⟩ else ⟨z, a.b, a.g⟩ := by
  cases bk <;> rfl
theorem code_is (bk : Bool) : (if bk then (48 : Int) else 38) = 38 ∨ (if bk then (48 : Int) else 38) = 48 := by
  cases bk
  · exact .inl rfl
  · exact .inr rfl
theorem nn_of (l : List Int) (h : ∀ n ∈ l, 0 ≤ n) : nn l = l := nn_pos h
theorem apply_rgb (a : R) (bk : Bool) (x y z : Int) (hx : 0 ≤ x ∧ x ≤ 255) (hy : 0 ≤ y ∧ y ≤ 255) (hz : 0 ≤ z ∧ z ≤ 255) :
    apply a [if bk then 48 else 38, 2, x, y, z] = if bk then ⟨a.f, rgb x y z, a.g⟩ else ⟨rgb x y z, a.b, a.g⟩ := by
  have hc := code_is bk
  have hp := put_back a bk (rgb x y z)
  generalize (if bk then (48 : Int) else 38) = k at hc hp ⊢
  have hd : den [2, x, y, z] = (rgb x y z, 4) := by
    unfold den
    rw [if_neg (fun h => by have := h.2.1; simp at this), if_pos ⟨by simp, rfl, by simp; omega, by simp; omega, by simp; omega⟩]
    rfl
  unfold apply
  rw [if_neg (by simp), nn_pos (by
    intro n hn
    simp only [List.mem_cons, List.not_mem_nil, or_false] at hn
    omega), run_put hc (by rw [hd]; exact (by decide : (4 : Nat) ≠ 0)), hd]
  show run (put a k (rgb x y z)) [] = _
  rw [run_nil, hp]
theorem apply_num (a : R) (bk : Bool) (x : Int) (hx : 0 ≤ x ∧ x ≤ 255) :
    apply a [if bk then 48 else 38, 5, x] = if bk then ⟨a.f, x, a.g⟩ else ⟨x, a.b, a.g⟩ := by
  have hc := code_is bk
  have hp := put_back a bk x
  generalize (if bk then (48 : Int) else 38) = k at hc hp ⊢
  have hd : den [5, x] = (x, 2) := by
    unfold den
    rw [if_pos ⟨by simp, rfl, by simp; omega⟩]
    rfl
  unfold apply
  rw [if_neg (by simp), nn_pos (by
    intro n hn
    simp only [List.mem_cons, List.not_mem_nil, or_false] at hn
    omega), run_put hc (by rw [hd]; exact (by decide : (2 : Nat) ≠ 0)), hd]
  show run (put a k x) [] = _
  rw [run_nil, hp]
theorem rgb_mono {x y z x' y' z' : Int} (hx : x ≤ x') (hy : y ≤ y') (hz : z ≤ z') : rgb x y z ≤ rgb x' y' z' := by
  unfold rgb lv
  omega
theorem rgb_range {x y z : Int} (hx : 0 ≤ x ∧ x ≤ 255) (hy : 0 ≤ y ∧ y ≤ 255) (hz : 0 ≤ z ∧ z ≤ 255) : 16 ≤ rgb x y z ∧ rgb x y z ≤ 231 := by
  unfold rgb lv
  omega
theorem rgb_black : rgb 0 0 0 = 16 := by decide
theorem rgb_white : rgb 255 255 255 = 231 := by decide

end Go.Proofs.YtdeicbciiabdfaaDoor.At
