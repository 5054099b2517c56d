/-
  What the listed tables of the library give, a world in which they lie, and how the arguments of the statements of layer 7 read.
-/
import Derived.Test.YtgmgnlgolhjhmaaDoorCards
import Derived.Test.YtgmgnlgolhjhmaaDoorTie
import Derived.Test.YtgmgnlgolhjhmaaDoorBaseD
import Derived.Test.YtgmgnlgolhjhmaaDoorBaseB
import Derived.Lib.LaidU8T
import Derived.Lib.LaidIn
import Derived.PinnedBridge
import Derived.Deep.DeepHandedRow
import Derived.Deep.DeepWitnessRowRef
import Derived.ProofKit
import Derived.OpenShut
import Derived.ShutString
import Derived.SizedLaws
import Derived.Lib.SmallJoins
import Derived.Deep.Slices
import Derived.Deep.Fields
import Derived.ChangeSame
namespace Go.Proofs.YtgmgnlgolhjhmaaDoor
open Go.Joins Go.ChangeShapes Go.WideShapes Go.ChangeAt Go.RowKit Go.Shelf Go.Deep Cr

theorem own : ownKnob Tryd.prog.godebug = none := by kernel_rfl
theorem laidOut : laidOutB Tryd.prog = true := by kernel_rfl

/-- The two tables, as every row of this seat lists them. -/
theorem tabs2 {W : World} (h : laidMetH Tryd.prog Rows.scrollbackRowsRow.laid W) : Lib.Utf8Tabs 0 1 W := by
  have h1 : Lib.VarReads Tryd.prog W _ Rows.laid_unicode_utf8_acceptRanges := Lib.laidMet.reads h (.head _)
  have h2 : Lib.VarReads Tryd.prog W _ Rows.laid_unicode_utf8_first := Lib.laidMet.reads h (.tail _ (.head _))
  unfold Rows.laid_unicode_utf8_first at h2
  rw [Pinned.utf8First_eq] at h2
  exact utf8Tabs_of_readsT (U8Types.of196 Tryd.lays196) ⟨by kernel_rfl, by kernel_rfl, by kernel_rfl, by kernel_rfl, by kernel_rfl, by kernel_rfl, by kernel_rfl⟩ h2 h1

/-- The settled world, the two tables holding what their initialisers lay. -/
noncomputable def laidWorld2 (os : Os) : World :=
  let w0 := World.holding Tryd.prog os ⟨#[], #[], []⟩
  let put (h : Array Obj) (g : Nat) (cs : Array Value) : Array Obj := h.modify g fun
    | .cells _ t frozen => .cells cs t frozen
    | o => o
  let h1 := put w0.heap 0 (Lib.firstTab.map fun z => Value.int .u8 z).toArray
  let h2 := put h1 1 ((List.range 16).flatMap fun i => [Value.int .u8 (Lib.accLo i), Value.int .u8 (Lib.accHi i)]).toArray
  { w0 with heap := h2 }
theorem laid_met2 (os : Os) (args : Array Value) : laidMet Tryd.prog Rows.scrollbackRowsRow.laid ((laidWorld2 os).forCall (fun _ _ => 0) ⟨#[], args, []⟩).memory :=
  (LaidIn.of_run (l := Rows.scrollbackRowsRow.laid) [0, 1] 8 (by kernel_rfl) (by kernel_rfl) (by kernel_rfl) (by kernel_rfl)).met

set_option maxRecDepth 100000 in
/-- An argument that is a string. -/
theorem open_text {H : Type} {enc : TypeId × Value → H} {W : World} {b0 : Nat} {v : Value} {d : DataW H} {p : List MemPlace} (hv : Value.okWide Tryd.prog W .any b0 9 v) (h : DataW.Trod enc Tryd.prog W 0 (fun _ => true) true 9 v d p) :
    ∃ x : ByteArray, v = .string x ∧ x.size ≤ 9223372036854775807 := by
  have h' := h
  obtain ⟨x, rfl, _, _, _⟩ := Go.ChangeMaps.open_string Tryd.underlying9 hv h
  obtain ⟨fuel, hf⟩ := h'
  obtain ⟨s, e, _, l⟩ := DataW.trod_string Tryd.underlying9 hf
  simp [Value.cells] at e
  subst e
  unfold maxLen at l
  exact ⟨x, rfl, by omega⟩
set_option maxRecDepth 100000 in
/-- An argument that is a rendition. -/
theorem open_attr {H : Type} {enc : TypeId × Value → H} {W : World} {b0 : Nat} {v : Value} {d : DataW H} {p : List MemPlace} (hv : Value.okWide Tryd.prog W .any b0 44 v) (h : DataW.Trod enc Tryd.prog W 0 (fun _ => true) true 44 v d p) :
    ∃ f b g : Int, v = .agg #[.int .i64 f, .int .i64 b, .int .i64 g] := by
  obtain ⟨v0, v1, v2, y0, y1, y2, n, rfl, _, _, h0, h1, h2⟩ := Go.Joins.open_agg3 Tryd.underlying44 (by kernel_rfl) (by kernel_rfl) hv h
  obtain ⟨x0, e0, _⟩ := DataW.trod_int Tryd.underlying3 h0
  obtain ⟨x1, e1, _⟩ := DataW.trod_int Tryd.underlying3 h1
  obtain ⟨x2, e2, _⟩ := DataW.trod_int Tryd.underlying3 h2
  simp at e0 e1 e2
  subst e0 e1 e2
  exact ⟨x0, x1, x2, rfl⟩
set_option maxRecDepth 100000 in
/-- The five cells of a cell of a row. -/
theorem cell_of {H : Type} {enc : TypeId × Value → H} {W : World} {fuel : Nat} {cs : List Value} {x : DataW H × List MemPlace} (h : DataW.trod enc Tryd.prog W 0 (fun _ => true) true fuel 46 cs = some x) : ∃ c : C, cs = c.cells ∧ c.t.size ≤ 9223372036854775807 := by
  obtain ⟨ys, n, _, _, hlen, hyl, hf⟩ := DataW.trod_struct Tryd.underlying46 h
  have c5 : Tryd.prog.cellsOf 46 = 5 := by kernel_rfl
  have c3 : Tryd.prog.cellsOf 44 = 3 := by kernel_rfl
  have k0 : Tryd.prog.cellsOf 9 = 1 := by kernel_rfl
  have k1 : Tryd.prog.cellsOf 3 = 1 := by kernel_rfl
  rw [c5] at hlen
  have hy3 : ys.length = 3 := hyl
  match cs, hlen, ys, hy3 with
  | [v0, v1, v2, v3, v4], _, [y0, y1, y2], _ =>
    have g0 : DataW.trod enc Tryd.prog W 0 (fun _ => true) true n 9 (([v0, v1, v2, v3, v4].drop 0).take (Tryd.prog.cellsOf 9)) = some y0 := hf 0 _ rfl
    have g1 : DataW.trod enc Tryd.prog W 0 (fun _ => true) true n 3 (([v0, v1, v2, v3, v4].drop 1).take (Tryd.prog.cellsOf 3)) = some y1 := hf 1 _ rfl
    have g2 : DataW.trod enc Tryd.prog W 0 (fun _ => true) true n 44 (([v0, v1, v2, v3, v4].drop 2).take (Tryd.prog.cellsOf 44)) = some y2 := hf 2 _ rfl
    rw [k0] at g0
    rw [k1] at g1
    rw [c3] at g2
    obtain ⟨zs, n', _, _, _, hzl, hg⟩ := DataW.trod_struct Tryd.underlying44 g2
    have hz3 : zs.length = 3 := hzl
    match zs, hz3 with
    | [z0, z1, z2], _ =>
      have q0 : DataW.trod enc Tryd.prog W 0 (fun _ => true) true n' 3 (([v2, v3, v4].drop 0).take (Tryd.prog.cellsOf 3)) = some z0 := hg 0 _ rfl
      have q1 : DataW.trod enc Tryd.prog W 0 (fun _ => true) true n' 3 (([v2, v3, v4].drop 1).take (Tryd.prog.cellsOf 3)) = some z1 := hg 1 _ rfl
      have q2 : DataW.trod enc Tryd.prog W 0 (fun _ => true) true n' 3 (([v2, v3, v4].drop 2).take (Tryd.prog.cellsOf 3)) = some z2 := hg 2 _ rfl
      rw [k1] at q0 q1 q2
      obtain ⟨x0, e0, _, l0⟩ := DataW.trod_string Tryd.underlying9 g0
      obtain ⟨x1, e1, _⟩ := DataW.trod_int Tryd.underlying3 g1
      obtain ⟨x2, e2, _⟩ := DataW.trod_int Tryd.underlying3 q0
      obtain ⟨x3, e3, _⟩ := DataW.trod_int Tryd.underlying3 q1
      obtain ⟨x4, e4, _⟩ := DataW.trod_int Tryd.underlying3 q2
      simp at e0 e1 e2 e3 e4
      subst e0 e1 e2 e3 e4
      unfold maxLen at l0
      exact ⟨⟨x0, x1, x2, x3, x4⟩, rfl, by simp only; omega⟩
theorem choose_list {α : Type} (n : Nat) (Q : Nat → α → Prop) (h : ∀ i, i < n → ∃ a, Q i a) : ∃ l : List α, l.length = n ∧ ∀ j a, l[j]? = some a → Q j a := by
  induction n with
  | zero => exact ⟨[], rfl, fun j a hj => by simp at hj⟩
  | succ n ih =>
    obtain ⟨l, hl, hq⟩ := ih (fun i hi => h i (by omega))
    obtain ⟨a, ha⟩ := h n (by omega)
    refine ⟨l ++ [a], by simp [hl], fun j b hj => ?_⟩
    rcases Nat.lt_or_ge j n with hjn | hjn
    · rw [List.getElem?_append_left (by omega)] at hj
      exact hq j b hj
    · rw [List.getElem?_append_right (by omega), hl] at hj
      have : j - n = 0 := by
        rcases Nat.eq_zero_or_pos (j - n) with h0 | h0
        · exact h0
        · rw [List.getElem?_eq_none (by simp; omega)] at hj; cases hj
      rw [this] at hj
      have e : a = b := by simpa using hj
      have e2 : j = n := by omega
      rw [e2, ← e]
      exact ha
set_option maxRecDepth 100000 in
/-- An argument that is a slice of cells. -/
theorem open_cells {H : Type} {enc : TypeId × Value → H} {W : World} {A : Option Addr} {n c : Nat} {d : DataW H} {p : List MemPlace} (h : DataW.Trod enc Tryd.prog W 0 (fun _ => true) true 25 (.slice A n c) d p) :
    ∃ l : List C, Rd W A n l ∧ n ≤ c ∧ n ≤ 9223372036854775807 := by
  obtain ⟨fuel, hf⟩ := h
  rcases open_slice Tryd.underlying25 hf with ⟨hcs, _⟩ | ⟨a, len, cap, m, k, D, Pl, hcs, _, hl, hm, hmm, _, hi⟩
  · simp [Value.cells] at hcs
    obtain ⟨rfl, rfl, rfl⟩ := hcs
    exact ⟨[], Rd.nil _ _, Nat.le_refl _, by omega⟩
  · simp [Value.cells] at hcs
    obtain ⟨rfl, rfl, rfl⟩ := hcs
    have hmn : n ≤ m := by rw [hmm]; simp; exact hl
    have c5 : Tryd.prog.cellsOf 46 = 5 := by kernel_rfl
    rw [c5] at hi
    obtain ⟨b, off, spot⟩ := a
    have key : ∀ i, i < n → ∃ x : C, spot = none ∧ b < W.heap.size ∧ ∀ j v, x.cells[j]? = some v → W.cell? ⟨b, off + (5 * i + j), none⟩ = some v := by
      intro i hin
      have hspot : spot = none := by
        obtain ⟨cs, hc, ht⟩ := hi 0 (by omega)
        obtain ⟨x, rfl, _⟩ := cell_of ht
        obtain ⟨_, _, hat⟩ := World.cells?_some hc
        have := hat 0 (by decide)
        exact World.cell?_spot (a := ⟨b, off, spot⟩) (by simpa [Addr.add, C.cells] using this)
      subst hspot
      obtain ⟨cs, hc, ht⟩ := hi i (by omega)
      obtain ⟨x, rfl, _⟩ := cell_of ht
      obtain ⟨_, _, hat⟩ := World.cells?_some hc
      have conv : ∀ (j : Nat) (v : Value), j < 5 → x.cells[j]? = some v → W.cell? ⟨b, off + (5 * i + j), none⟩ = some v := fun j v hj hv => by
        have h1 := hat j hj
        rw [addr_add] at h1
        have h2 : (⟨b, off + i * 5, none⟩ : Addr).add j = ⟨b, off + (5 * i + j), none⟩ := by
          rw [addr_add, Nat.mul_comm, Nat.add_assoc]
        rw [h2] at h1
        rw [h1, ← hv]
      refine ⟨x, rfl, ?_, fun j v hj => conv j v ?_ hj⟩
      · have h0 := conv 0 _ (by decide) rfl
        rcases Nat.lt_or_ge b W.heap.size with hlt | hge
        · exact hlt
        · simp [World.cell?, Array.getElem?_eq_none hge] at h0
      · rcases Nat.lt_or_ge j 5 with hlt | hge
        · exact hlt
        · rw [List.getElem?_eq_none (by rw [C.cells_length]; exact hge)] at hj; cases hj
    obtain ⟨l, hgl, hq⟩ := choose_list n (fun i (x : C) => spot = none ∧ b < W.heap.size ∧ ∀ j v, x.cells[j]? = some v → W.cell? ⟨b, off + (5 * i + j), none⟩ = some v) key
    refine ⟨l, ⟨hgl, fun j x hj => ?_⟩, hl, by unfold maxLen at hm; omega⟩
    obtain ⟨hs, hb, hc⟩ := hq j x hj
    subst hs
    exact ⟨b, off, rfl, hb, hc⟩

end Go.Proofs.YtgmgnlgolhjhmaaDoor
