/-
  Plain mathematics of layer 11: modes, what a number denotes, what the functions return (no program here).
-/
import Derived.Test.YtgnkbcflkalhjaaDoorRows
namespace Go.Proofs.YtgnkbcflkalhjaaDoor
namespace Mo

/-- Modes: the eight flags in the order of their declaration, the two character sets and the shift. -/
structure M where
  f0 : Bool
  f1 : Bool
  f2 : Bool
  f3 : Bool
  f4 : Bool
  f5 : Bool
  f6 : Bool
  f7 : Bool
  s0 : Int
  s1 : Int
  sh : Int
deriving DecidableEq

def M.cells (m : M) : Array Value := #[.bool m.f0, .bool m.f1, .bool m.f2, .bool m.f3, .bool m.f4, .bool m.f5, .bool m.f6, .bool m.f7, .int .u8 m.s0, .int .u8 m.s1, .int .i64 m.sh]
def M.get (m : M) : Nat → Bool
  | 0 => m.f0 | 1 => m.f1 | 2 => m.f2 | 3 => m.f3 | 4 => m.f4 | 5 => m.f5 | 6 => m.f6 | 7 => m.f7 | _ => false
def M.put (m : M) (j : Nat) (b : Bool) : M :=
  match j with
  | 0 => { m with f0 := b } | 1 => { m with f1 := b } | 2 => { m with f2 := b } | 3 => { m with f3 := b } | 4 => { m with f4 := b } | 5 => { m with f5 := b } | 6 => { m with f6 := b } | 7 => { m with f7 := b } | _ => m
/-- The initial modes. -/
def new : M := ⟨false, false, false, false, true, true, false, false, 66, 66, 0⟩
/-- The flag that a number denotes for a marker; 8: none. -/
def den (p n : Int) : Nat :=
  if p = 0 then (if n = 4 then 0 else if n = 20 then 1 else 8)
  else if p = 63 then (if n = 1 then 2 else if n = 6 then 3 else if n = 7 then 4 else if n = 25 then 5 else if n = 47 ∨ n = 1047 ∨ n = 1049 then 6 else if n = 2048 then 7 else 8)
  else 8
theorem den_le (p n : Int) : den p n ≤ 8 := by unfold den; (repeat' split) <;> omega
def set (m : M) (p : Int) (l : List Int) (b : Bool) : M := l.foldl (fun m n => m.put (den p n) b) m
theorem set_nil (m : M) (p : Int) (b : Bool) : set m p [] b = m := rfl
theorem set_app (m : M) (p : Int) (l l2 : List Int) (b : Bool) : set (set m p l b) p l2 b = set m p (l ++ l2) b := by unfold set; rw [List.foldl_append]
theorem set_one (m : M) (p n : Int) (b : Bool) : set m p [n] b = m.put (den p n) b := rfl
theorem set_take (m : M) (p : Int) (l : List Int) (b : Bool) (k : Nat) (h : k < l.length) : (set m p (l.take k) b).put (den p (l.getD k 0)) b = set m p (l.take (k + 1)) b := by
  rw [List.take_add_one, ← set_app, List.getElem?_eq_getElem h, List.getD_eq_getElem?_getD, List.getElem?_eq_getElem h]
  rfl
theorem cases8 {j : Nat} (h : j ≤ 8) : j = 0 ∨ j = 1 ∨ j = 2 ∨ j = 3 ∨ j = 4 ∨ j = 5 ∨ j = 6 ∨ j = 7 ∨ j = 8 := by omega
theorem put_ext {m m' : M} (h : ∀ j, j < 8 → m.get j = m'.get j) (h0 : m.s0 = m'.s0) (h1 : m.s1 = m'.s1) (h2 : m.sh = m'.sh) : m = m' := by
  have e0 := h 0 (by omega)
  have e1 := h 1 (by omega)
  have e2 := h 2 (by omega)
  have e3 := h 3 (by omega)
  have e4 := h 4 (by omega)
  have e5 := h 5 (by omega)
  have e6 := h 6 (by omega)
  have e7 := h 7 (by omega)
  cases m
  cases m'
  simp [M.get] at e0 e1 e2 e3 e4 e5 e6 e7 h0 h1 h2
  simp [e0, e1, e2, e3, e4, e5, e6, e7, h0, h1, h2]
theorem put_get (m : M) (j i : Nat) (b : Bool) (hi : i < 8) : (m.put j b).get i = if j = i then b else m.get i := by
  have : i = 0 ∨ i = 1 ∨ i = 2 ∨ i = 3 ∨ i = 4 ∨ i = 5 ∨ i = 6 ∨ i = 7 := by omega
  match j with
  | 0 | 1 | 2 | 3 | 4 | 5 | 6 | 7 => rcases this with rfl | rfl | rfl | rfl | rfl | rfl | rfl | rfl <;> rfl
  | j + 8 => rw [if_neg (by omega)]; rfl
theorem put_s0 (m : M) (j : Nat) (b : Bool) : (m.put j b).s0 = m.s0 := by unfold M.put; split <;> rfl
theorem put_s1 (m : M) (j : Nat) (b : Bool) : (m.put j b).s1 = m.s1 := by unfold M.put; split <;> rfl
theorem put_sh (m : M) (j : Nat) (b : Bool) : (m.put j b).sh = m.sh := by unfold M.put; split <;> rfl
theorem set_s0 (p : Int) (l : List Int) (b : Bool) : ∀ m : M, (set m p l b).s0 = m.s0 := by
  induction l with
  | nil => intro m; rfl
  | cons n l ih => intro m; exact (ih _).trans (put_s0 _ _ _)
theorem set_s1 (p : Int) (l : List Int) (b : Bool) : ∀ m : M, (set m p l b).s1 = m.s1 := by
  induction l with
  | nil => intro m; rfl
  | cons n l ih => intro m; exact (ih _).trans (put_s1 _ _ _)
theorem set_sh (p : Int) (l : List Int) (b : Bool) : ∀ m : M, (set m p l b).sh = m.sh := by
  induction l with
  | nil => intro m; rfl
  | cons n l ih => intro m; exact (ih _).trans (put_sh _ _ _)
theorem set_get (p : Int) (l : List Int) (b : Bool) (i : Nat) (hi : i < 8) : ∀ m : M, (set m p l b).get i = if l.any (fun n => den p n == i) then b else m.get i := by
  induction l with
  | nil => intro m; rfl
  | cons n l ih =>
    intro m
    have e : set m p (n :: l) b = set (m.put (den p n) b) p l b := rfl
    rw [e, ih, put_get _ _ _ _ hi, List.any_cons]
    by_cases h1 : den p n = i
    · simp [h1]
    · have : (den p n == i) = false := by simp [h1]
      rw [this, Bool.false_or, if_neg h1]
/-- Only the last setting counts. -/
theorem set_last (m : M) (p : Int) (l : List Int) (a b : Bool) : set (set m p l a) p l b = set m p l b := by
  refine put_ext (fun j hj => ?_) ?_ ?_ ?_
  · rw [set_get _ _ _ _ hj, set_get _ _ _ _ hj, set_get _ _ _ _ hj]
    split <;> rfl
  · rw [set_s0, set_s0, set_s0]
  · rw [set_s1, set_s1, set_s1]
  · rw [set_sh, set_sh, set_sh]

/-- Designate and Shift; which set is active; Map. -/
def desig (m : M) (x : ByteArray) (c : Int) : M :=
  if c = 66 ∨ c = 48 then (if x = ⟨#[40]⟩ then { m with s0 := c } else if x = ⟨#[41]⟩ then { m with s1 := c } else m) else m
def shift (m : M) (i : Int) : M := if i = 0 ∨ i = 1 then { m with sh := i } else m
def act (m : M) : Int := if m.sh = 1 then m.s1 else m.s0
def tab : List Int := [0x00A0, 0x25C6, 0x2592, 0x2409, 0x240C, 0x240D, 0x240A, 0x00B0, 0x00B1, 0x2424, 0x240B, 0x2518, 0x2510, 0x250C, 0x2514, 0x253C, 0x23BA, 0x23BB, 0x2500, 0x23BC, 0x23BD, 0x251C, 0x2524, 0x2534, 0x252C, 0x2502, 0x2264, 0x2265, 0x03C0, 0x2260, 0x00A3, 0x00B7]
def mapc (s r : Int) : Int := if s = 48 ∧ 95 ≤ r ∧ r ≤ 126 then tab.getD (r - 95).toNat 0 else r

end Mo
end Go.Proofs.YtgnkbcflkalhjaaDoor
