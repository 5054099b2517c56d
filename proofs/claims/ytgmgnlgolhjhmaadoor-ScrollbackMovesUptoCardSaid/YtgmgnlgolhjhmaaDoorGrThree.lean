/-
  How functions with a grid and a rendition begin; parts of a slice of rows.
-/
import Derived.Test.YtgmgnlgolhjhmaaDoorGrSet
import Derived.Deep.RegionLaw
import Derived.Deep.QuietTactic
namespace Go.Proofs.YtgmgnlgolhjhmaaDoor
open Go.RowKit Go.Shelf Cr Gd

/-- The world behind the entry of a function with a grid, a rendition and a result grid. -/
theorem three_in (w : World) (W H : Int) (A : Option Addr) (n c : Nat) (f b g : Int) :
    Kg (((w.alloc (.cells #[.int .i64 W, .int .i64 H, .slice A n c] 35)).alloc (.cells #[.int .i64 f, .int .i64 b, .int .i64 g] 44)).alloc (.cells #[.int .i64 0, .int .i64 0, .slice none 0 0] 35)) w.heap.size W H A n c ∧
    (((w.alloc (.cells #[.int .i64 W, .int .i64 H, .slice A n c] 35)).alloc (.cells #[.int .i64 f, .int .i64 b, .int .i64 g] 44)).alloc (.cells #[.int .i64 0, .int .i64 0, .slice none 0 0] 35)).heap[w.heap.size + 1]? = some (.cells #[.int .i64 f, .int .i64 b, .int .i64 g] 44) ∧
    Kg (((w.alloc (.cells #[.int .i64 W, .int .i64 H, .slice A n c] 35)).alloc (.cells #[.int .i64 f, .int .i64 b, .int .i64 g] 44)).alloc (.cells #[.int .i64 0, .int .i64 0, .slice none 0 0] 35)) (w.heap.size + 1 + 1) 0 0 none 0 0 ∧
    Below w.heap.size w (((w.alloc (.cells #[.int .i64 W, .int .i64 H, .slice A n c] 35)).alloc (.cells #[.int .i64 f, .int .i64 b, .int .i64 g] 44)).alloc (.cells #[.int .i64 0, .int .i64 0, .slice none 0 0] 35)) := by
  have h1 := Kg.new w W H A n c
  have b1 := (Below.refl w.heap.size w).alloc (Nat.le_refl _) (.cells #[.int .i64 W, .int .i64 H, .slice A n c] 35)
  have e1 : (w.alloc (.cells #[.int .i64 W, .int .i64 H, .slice A n c] 35)).heap.size = w.heap.size + 1 := by simp
  generalize w.alloc (.cells #[.int .i64 W, .int .i64 H, .slice A n c] 35) = w1 at h1 b1 e1 ⊢
  have h2 := heap_alloc_new w1 (.cells #[.int .i64 f, .int .i64 b, .int .i64 g] 44)
  have b2 := (Below.refl w1.heap.size w1).alloc (Nat.le_refl _) (.cells #[.int .i64 f, .int .i64 b, .int .i64 g] 44)
  have e2 : (w1.alloc (.cells #[.int .i64 f, .int .i64 b, .int .i64 g] 44)).heap.size = w.heap.size + 1 + 1 := by simp [e1]
  rw [e1] at h2
  generalize w1.alloc (.cells #[.int .i64 f, .int .i64 b, .int .i64 g] 44) = w2 at h2 b2 e2 ⊢
  have h3 := Kg.new w2 0 0 none 0 0
  rw [e2] at h3
  have b3 := (Below.refl w2.heap.size w2).alloc (Nat.le_refl _) (.cells #[.int .i64 0, .int .i64 0, .slice none 0 0] 35)
  exact ⟨(h1.below b2).below b3, (b3.block _ (by omega)).trans h2, h3, (b1.trans (b2.mono b1.size)).trans (b3.mono (b1.trans (b2.mono b1.size)).size)⟩

theorem clearR_bad {W H : Int} {L : List (List C)} {f t c : Int} (h : useE W H L (decide (0 ≤ f ∧ f ≤ t ∧ t ≤ H)) ≠ 0) : clearR W H L f t c = bad (useE W H L (decide (0 ≤ f ∧ f ≤ t ∧ t ≤ H))) := by
  unfold clearR useE at *
  split
  · rfl
  · rename_i h1
    rw [if_neg h1] at h
    split
    · rename_i h2; rw [decide_eq_false h2, if_neg (by decide)]
    · rename_i h2
      rw [decide_eq_true (Decidable.not_not.1 h2), if_pos rfl] at h
      exact absurd rfl h
theorem clearR_ok {W H : Int} {L : List (List C)} {f t c : Int} (h : useE W H L (decide (0 ≤ f ∧ f ≤ t ∧ t ≤ H)) = 0) : clearR W H L f t c = ⟨0, W, H, clr L f.toNat t.toNat (blanks W.toNat c), []⟩ := by
  obtain ⟨h1, h2⟩ := useE_zero h
  unfold clearR
  rw [if_neg (by omega), if_neg (by have := of_decide_eq_true h2; omega)]
theorem rows_ok {v h : Nat} {L : List (List C)} (g : Gd.Good v h L) : ∀ l ∈ L, 1 ≤ l.length ∧ l.length ≤ 1000 := fun x hx => by have := g.2.2.2.2.2 x hx; have := g.1; have := g.2.1; omega
theorem rows_take {L : List (List C)} (h : ∀ l ∈ L, 1 ≤ l.length ∧ l.length ≤ 1000) (k : Nat) : ∀ l ∈ L.take k, 1 ≤ l.length ∧ l.length ≤ 1000 := fun x hx => h x (List.mem_of_mem_take hx)
theorem rows_drop {L : List (List C)} (h : ∀ l ∈ L, 1 ≤ l.length ∧ l.length ≤ 1000) (k : Nat) : ∀ l ∈ L.drop k, 1 ≤ l.length ∧ l.length ≤ 1000 := fun x hx => h x (List.mem_of_mem_drop hx)
theorem RdR.tail {w : World} {b off n c : Nat} {L : List (List C)} (h : RdR w (some ⟨b, off, none⟩) n L) {i : Nat} (hj : i ≤ n) (hc : n ≤ c) {R : Option Addr} (hR : (if c = i then some ⟨b, off, none⟩ else some ⟨b, off + i, none⟩) = R) : RdR w R (n - i) (L.drop i) := by
  have := h.mid hj (Nat.le_refl _) hc hR
  rwa [List.take_of_length_le (by rw [List.length_drop, h.1]; exact Nat.le_refl _)] at this
theorem GR.prt {w0 w w' : World} {A : Option Addr} {n c : Nat} {L : List (List C)} (h : GR w0 w (.slice A n c) L) (hb : Below w.heap.size w w') : Prt w' (.slice A n c) L := ⟨A, n, c, rfl, h.rd.1.below hb, h.rd.2.1⟩

end Go.Proofs.YtgmgnlgolhjhmaaDoor
