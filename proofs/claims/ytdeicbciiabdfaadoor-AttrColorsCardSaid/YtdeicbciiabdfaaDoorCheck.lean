/-
  What Check of attr returns, for every rendition.
-/
import Derived.Test.YtdeicbciiabdfaaDoorFlags
import Derived.Deep.RegionHeld3
import Derived.Deep.RegionWith
namespace Go.Proofs.YtdeicbciiabdfaaDoor
open Go.RowKit

/-- The rendition lies in the block k of the world w'; what lay in w below B stands; the table stands. -/
def Box (w : World) (B k : Nat) (f b g : Int) (w' : World) : Prop :=
  w'.cell? ⟨k, 0, none⟩ = some (.int .i64 f) ∧ w'.cell? ⟨k, 1, none⟩ = some (.int .i64 b) ∧ w'.cell? ⟨k, 2, none⟩ = some (.int .i64 g) ∧ Aside (k < w'.heap.size ∧ Below B w w' ∧ Tb w')
theorem Box.below {w : World} {B k : Nat} {f b g : Int} {W W' : World} (h : Box w B k f b g W) (hB : B ≤ W.heap.size) (hb : Below W.heap.size W W') : Box w B k f b g W' :=
  ⟨(hb.cell (p := ⟨k, 0, none⟩) h.2.2.2.out.1).trans h.1, (hb.cell (p := ⟨k, 1, none⟩) h.2.2.2.out.1).trans h.2.1, (hb.cell (p := ⟨k, 2, none⟩) h.2.2.2.out.1).trans h.2.2.1,
    ⟨Nat.lt_of_lt_of_le h.2.2.2.out.1 hb.size, h.2.2.2.out.2.1.trans (hb.mono hB), h.2.2.2.out.2.2.below hb (Nat.le_refl _)⟩⟩
theorem Box.sized {w : World} {k : Nat} {f b g : Int} {W : World} (h : Box w w.heap.size k f b g W) : w.heap.size ≤ W.heap.size := h.2.2.2.out.2.1.size
theorem Box.laid (w : World) (f b g : Int) (hT : Tb w) : Box w w.heap.size w.heap.size f b g (w.alloc (.cells #[.int .i64 f, .int .i64 b, .int .i64 g] 23)).drew := by
  refine ⟨World.cell?_alloc_at _ _ _ 0 rfl, World.cell?_alloc_at _ _ _ 1 rfl, World.cell?_alloc_at _ _ _ 2 rfl, ?_, ?_, ?_⟩
  · show w.heap.size < (w.alloc _).heap.size
    simp
  · exact ((Below.refl _ w).alloc (Nat.le_refl _) _).drew
  · exact hT.below (((Below.refl _ w).alloc (Nat.le_refl _) (.cells #[.int .i64 f, .int .i64 b, .int .i64 g] 23)).drew) (Nat.le_refl _)

theorem isColor_same (c : Int) (w : World) : Calls Tryd.prog 8 #[.int .i64 c] w fun e w' => e = .returned (.bool (decide (-1 ≤ c ∧ c ≤ 255))) ∧ w' = w :=
  (isColor_any c w).mono fun _ _ ⟨h, e⟩ => ⟨h, e.symm⟩
theorem below_drewN {B : Nat} {a w : World} (h : Below B a w) (n : Nat) : Below B a (w.drewN n) := ⟨h.os, h.tape, h.output, h.size, h.block⟩

set_option maxHeartbeats 1000000 in
set_option maxRecDepth 100000 in
theorem check_ok (f b g : Int) (w : World) (hT : Tb w) (a1 : -1 ≤ f ∧ f ≤ 255) (a2 : -1 ≤ b ∧ b ≤ 255) (a3 : decide (g < 0) = false) (z : Int) (q : Bool) (hq : decide (255 < g) = q) (hz : z = if q then 2 else 0) :
    Calls Tryd.prog 4 #[.agg #[.int .i64 f, .int .i64 b, .int .i64 g]] w fun e w' => e = .returned (.int .i64 z) ∧ Below w.heap.size w w' := by
  have c1 : ∀ (r : Int), (-1 ≤ r ∧ r ≤ 255) → ∀ W : World, Calls Tryd.prog 8 #[.int .i64 r] W fun e w' => e = .returned (.bool true) ∧ W = w' := fun r hr W => by have := isColor_any r W; rwa [decide_eq_true hr] at this
  have c3 := Lib.hid (fun (W : World) (h : Box w w.heap.size w.heap.size f b g W) => allFlags_any W h.2.2.2.out.2.2)
  have hS0 := Box.laid w f b g hT
  have HZ := Lib.hid hz
  clear hz
  go_enter Tryd.func4, Tryd.ntmps4
  go_wp2_with fail
  obtain ⟨W0, hW0⟩ : ∃ W0, w.alloc (.cells #[.int .i64 f, .int .i64 b, .int .i64 g] 23) = W0 := ⟨_, rfl⟩
  rw [hW0] at hS0 ⊢
  clear hW0
  have keep : ∀ {W W' : World}, (W.cell? ⟨w.heap.size, 0, none⟩ = some (.int .i64 f) ∧ W.cell? ⟨w.heap.size, 1, none⟩ = some (.int .i64 b) ∧ W.cell? ⟨w.heap.size, 2, none⟩ = some (.int .i64 g) ∧ Aside (w.heap.size < W.heap.size ∧ Below w.heap.size w W ∧ Tb W)) → Below W.heap.size W W' → (W'.cell? ⟨w.heap.size, 0, none⟩ = some (.int .i64 f) ∧ W'.cell? ⟨w.heap.size, 1, none⟩ = some (.int .i64 b) ∧ W'.cell? ⟨w.heap.size, 2, none⟩ = some (.int .i64 g) ∧ Aside (w.heap.size < W'.heap.size ∧ Below w.heap.size w W' ∧ Tb W')) := fun {W W'} h hb => Box.below h (Box.sized h) hb
  have c3 : ∀ W : World, (W.cell? ⟨w.heap.size, 0, none⟩ = some (.int .i64 f) ∧ W.cell? ⟨w.heap.size, 1, none⟩ = some (.int .i64 b) ∧ W.cell? ⟨w.heap.size, 2, none⟩ = some (.int .i64 g) ∧ Aside (w.heap.size < W.heap.size ∧ Below w.heap.size w W ∧ Tb W)) → Calls Tryd.prog 9 #[] W fun e w' => e = .returned (.int .i64 255) ∧ Below W.heap.size W w' := fun W h => c3.out W h
  unfold Box at hS0
  go_region_held3 (fun w' => w'.cell? ⟨w.heap.size, 0, none⟩ = some (.int .i64 f) ∧ w'.cell? ⟨w.heap.size, 1, none⟩ = some (.int .i64 b) ∧ w'.cell? ⟨w.heap.size, 2, none⟩ = some (.int .i64 g) ∧ Aside (w.heap.size < w'.heap.size ∧ Below w.heap.size w w' ∧ Tb w'))
    (assumption)
    (first | (go_at_call 8; refine (c1 _ (by with_reducible assumption) _).mono ?_; rintro e w' ⟨rfl, rfl⟩) | (go_at_call 9; refine (c3 _ (by assumption)).mono ?_; rintro e w' ⟨rfl, hb'⟩; have hs' := keep (by assumption) hb'))
  cases q
  all_goals
    go_wp2
    go_ret
    exact ⟨ret_int HZ.out.symm, hs'.2.2.2.out.2.1⟩

set_option maxHeartbeats 1000000 in
set_option maxRecDepth 100000 in
theorem check_bad (f b g : Int) (w : World) (h : ¬ (-1 ≤ f ∧ f ≤ 255) ∨ ¬ (-1 ≤ b ∧ b ≤ 255) ∨ g < 0) :
    Calls Tryd.prog 4 #[.agg #[.int .i64 f, .int .i64 b, .int .i64 g]] w fun e w' => e = .returned (.int .i64 2) ∧ Below w.heap.size w w' := by
  have c1 := fun W => isColor_same f W
  have c2 := fun W => isColor_same b W
  have hS0 : Hid (Below w.heap.size w (w.alloc (.cells #[.int .i64 f, .int .i64 b, .int .i64 g] 23))) := Lib.hid ((Below.refl _ w).alloc (Nat.le_refl _) _)
  cases q1 : decide (-1 ≤ f ∧ f ≤ 255)
  · rw [q1] at c1
    clear h q1
    go_enter Tryd.func4, Tryd.ntmps4
    go_wp2_with fail
    go_quiet (first | (go_at_call 8; (with_reducible refine Calls.quiet_of_same (c1 _))) | (go_at_call 8; (with_reducible refine Calls.quiet_of_same (c2 _))))
    go_wp2
    go_ret
    exact ⟨rfl, below_drewN hS0.out _⟩
  · rw [q1] at c1
    cases q2 : decide (-1 ≤ b ∧ b ≤ 255)
    · rw [q2] at c2
      clear h q1 q2
      go_enter Tryd.func4, Tryd.ntmps4
      go_wp2_with fail
      go_quiet (first | (go_at_call 8; (with_reducible refine Calls.quiet_of_same (c1 _))) | (go_at_call 8; (with_reducible refine Calls.quiet_of_same (c2 _))))
      go_wp2
      go_ret
      exact ⟨rfl, below_drewN hS0.out _⟩
    · have h3 : g < 0 := by
        rcases h with h | h | h
        · exact absurd (of_decide_eq_true q1) h
        · exact absurd (of_decide_eq_true q2) h
        · exact h
      rw [q2] at c2
      clear h q1 q2
      go_enter Tryd.func4, Tryd.ntmps4
      go_wp2_with fail
      go_quiet (first | (go_at_call 8; (with_reducible refine Calls.quiet_of_same (c1 _))) | (go_at_call 8; (with_reducible refine Calls.quiet_of_same (c2 _))))
      go_wp2
      go_ret
      exact ⟨rfl, below_drewN hS0.out _⟩

/-- Check of a proper rendition. -/
theorem check_yes (a : At.R) (w : World) (hT : Tb w) (h : At.ok a) :
    Calls Tryd.prog 4 #[.agg #[.int .i64 a.f, .int .i64 a.b, .int .i64 a.g]] w fun e w' => e = .returned (.int .i64 0) ∧ Below w.heap.size w w' :=
  check_ok a.f a.b a.g w hT h.1 h.2.1 (decide_eq_false (by have := h.2.2.1; omega)) 0 false (decide_eq_false (by have := h.2.2.2; omega)) rfl
/-- Check of any other. -/
theorem check_no (a : At.R) (w : World) (hT : Tb w) (h : ¬ At.ok a) :
    Calls Tryd.prog 4 #[.agg #[.int .i64 a.f, .int .i64 a.b, .int .i64 a.g]] w fun e w' => e = .returned (.int .i64 2) ∧ Below w.heap.size w w' := by
  by_cases h1 : -1 ≤ a.f ∧ a.f ≤ 255
  · by_cases h2 : -1 ≤ a.b ∧ a.b ≤ 255
    · by_cases h3 : a.g < 0
      · exact check_bad _ _ _ w (.inr (.inr h3))
      · have h4 : 255 < a.g := by
          have : ¬ (0 ≤ a.g ∧ a.g ≤ 255) := fun c => h ⟨h1, h2, c⟩
          omega
        exact check_ok a.f a.b a.g w hT h1 h2 (decide_eq_false h3) 2 true (decide_eq_true h4) rfl
    · exact check_bad _ _ _ w (.inr (.inl h2))
  · exact check_bad _ _ _ w (.inl h1)

set_option maxHeartbeats 400000 in
set_option maxRecDepth 100000 in
theorem style_any (f b g : Int) (w : World) : Calls Tryd.prog 13 #[.agg #[.int .i64 f, .int .i64 b, .int .i64 g]] w fun e w' => e = .returned (.int .i64 (At.style g)) ∧ Below w.heap.size w w' := by
  obtain ⟨z, hz⟩ : ∃ z, At.style g = z := ⟨_, rfl⟩
  rw [hz]
  unfold At.style at hz
  have HZ := Lib.hid hz
  clear hz
  cases h1 : (bits .and .i64 g 64 != 0) <;> cases h2 : (bits .and .i64 g 32 != 0) <;> cases h3 : (bits .and .i64 g 29 != 0)
  all_goals
    rw [h1, h2, h3] at HZ
    go_enter Tryd.func13, Tryd.ntmps13
    go_wp2
    go_ret
    exact ⟨ret_int (by have q := HZ.out; simpa using q), (Below.refl _ w).alloc (Nat.le_refl _) _⟩

end Go.Proofs.YtdeicbciiabdfaaDoor
