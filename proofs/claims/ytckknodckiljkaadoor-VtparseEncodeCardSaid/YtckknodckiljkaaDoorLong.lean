/-
  What Long of the document's own answers returns; Idle of the zero parser; what is known of a slice of events among the arguments.
-/
import Derived.Test.YtckknodckiljkaaDoorKp
import Derived.Test.YtckknodckiljkaaDoorEncode
namespace Go.Proofs.YtckknodckiljkaaDoor
open Go.RowKit

def long (g : G) : Bool := decide (400 < g.e.i.length) || (decide (100 < g.n) || decide (400 < g.e.t.length))
set_option maxHeartbeats 1000000 in
set_option maxRecDepth 100000 in
theorem long_any (g : G) (w : World) :
    Calls Tryd.prog 19 #[.agg #[.int .i64 g.e.k, .int .i32 g.e.r, .int .u8 (g.e.c.toNat : Int), .int .u8 (g.e.p.toNat : Int), .string (ba g.e.i), .slice g.A g.n g.c, .string (ba g.e.t)]] w fun x w' => x = .returned (.bool (long g)) ∧ Below w.heap.size w w' := by
  obtain ⟨⟨k, r, cc, p, i, ps, t⟩, A, n, c⟩ := g
  unfold long
  simp only
  have hi := ba_size i
  have ht := ba_size t
  by_cases h1 : 400 < i.length
  · have z1 : (400 : Int) < ((ba i).size : Int) := by omega
    rw [decide_eq_true h1, Bool.true_or]
    clear hi ht
    go_enter Tryd.func19, Tryd.ntmps19
    go_wp2
    go_ret
    exact ⟨rfl, (Below.refl _ _).alloc (Nat.le_refl _) _⟩
  · have z1 : ¬ (400 : Int) < ((ba i).size : Int) := by omega
    rw [decide_eq_false h1, Bool.false_or]
    by_cases h2 : 100 < n
    · have z2 : (100 : Int) < (n : Int) := by omega
      rw [decide_eq_true h2, Bool.true_or]
      clear hi ht
      go_enter Tryd.func19, Tryd.ntmps19
      go_wp2
      go_ret
      exact ⟨rfl, (Below.refl _ _).alloc (Nat.le_refl _) _⟩
    · have z2 : ¬ (100 : Int) < (n : Int) := by omega
      rw [decide_eq_false h2, Bool.false_or]
      have e : decide ((400 : Int) < ((ba t).size : Int)) = decide (400 < t.length) := decide_eq_decide.2 (by omega)
      have HE := Lib.hid e
      clear hi ht e
      go_enter Tryd.func19, Tryd.ntmps19
      go_wp2
      go_ret
      exact ⟨ret_bool HE.out, (Below.refl _ _).alloc (Nat.le_refl _) _⟩
set_option maxHeartbeats 1000000 in
set_option maxRecDepth 100000 in
theorem idle_zero (w : World) : Calls Tryd.prog 17 #[.agg #[.int .i64 0, .string ⟨#[]⟩, .string ⟨#[]⟩]] w fun x w' => x = .returned (.bool true) ∧ Below w.heap.size w w' := by
  go_enter Tryd.func17, Tryd.ntmps17
  go_wp2
  go_ret
  exact ⟨rfl, (Below.refl _ _).alloc (Nat.le_refl _) _⟩

/-- A slice of events among the arguments. -/
def EvsOk (w : World) (A : Option Addr) (n : Nat) (gs : List G) : Prop := Evs w A n (gs.map G.e) ∧ n ≤ 9223372036854775807 ∧ ∀ (j : Nat) g, gs[j]? = some g → EvOk w g ∧ ∃ b off, A = some ⟨b, off, none⟩ ∧ b < w.heap.size ∧ ∀ i v, g.cells[i]? = some v → w.cell? ⟨b, off + (7 * j + i), none⟩ = some v
theorem EvsOk.at {w W : World} {A : Option Addr} {n : Nat} {gs : List G} (h : EvsOk w A n gs) (hb : Below w.heap.size w W) (j : Nat) (hj : j < n) : ∃ (b off : Nat) (g : G), A = some ⟨b, off, none⟩ ∧ gs[j]? = some g ∧ EvOk W g ∧
    W.cell? ⟨b, off + j * 7, none⟩ = some (.int .i64 g.e.k) ∧ W.cell? ⟨b, off + j * 7 + 1, none⟩ = some (.int .i32 g.e.r) ∧ W.cell? ⟨b, off + j * 7 + 2, none⟩ = some (.int .u8 (g.e.c.toNat : Int)) ∧ W.cell? ⟨b, off + j * 7 + 3, none⟩ = some (.int .u8 (g.e.p.toNat : Int)) ∧
    W.cell? ⟨b, off + j * 7 + 4, none⟩ = some (.string (ba g.e.i)) ∧ W.cell? ⟨b, off + j * 7 + 5, none⟩ = some (.slice g.A g.n g.c) ∧ W.cell? ⟨b, off + j * 7 + 6, none⟩ = some (.string (ba g.e.t)) := by
  have hl : gs.length = n := by have := h.1.length; rwa [List.length_map] at this
  have hjl : j < gs.length := by omega
  obtain ⟨h1, b, off, e, hlt, hc⟩ := h.2.2 j gs[j] (List.getElem?_eq_getElem hjl)
  have hq : ∀ i v, gs[j].cells[i]? = some v → W.cell? ⟨b, off + j * 7 + i, none⟩ = some v := fun i v hv => by
    rw [Nat.add_assoc, Nat.mul_comm]
    exact (hb.cell (p := ⟨b, off + (7 * j + i), none⟩) hlt).trans (hc i v hv)
  exact ⟨b, off, gs[j], e, List.getElem?_eq_getElem hjl, h1.below hb, hq 0 _ rfl, hq 1 _ rfl, hq 2 _ rfl, hq 3 _ rfl, hq 4 _ rfl, hq 5 _ rfl, hq 6 _ rfl⟩

end Go.Proofs.YtckknodckiljkaaDoor
