/-
  What the listed table of the special graphics gives, a world in which it lies, and how the arguments of the statements of layer 11 read.
-/
import Derived.Test.YtgnkbcflkalhjaaDoorCards
import Derived.Test.YtgnkbcflkalhjaaDoorTie
import Derived.Test.YtgnkbcflkalhjaaDoorMoMap
import Derived.Lib.LaidIn
import Derived.Lib.LaidTab
import Derived.Deep.DeepHandedRow
import Derived.Deep.DeepWitnessRowRef
import Derived.ProofKit
import Derived.OpenShut
import Derived.ShutString
import Derived.SizedLaws
import Derived.Lib.SmallJoins
import Derived.Deep.Fields
import Derived.Deep.Slices
namespace Go.Proofs.YtgnkbcflkalhjaaDoor
open Go.ChangeShapes Go.WideShapes Go.ChangeAt Go.RowKit Mo

theorem own : ownKnob Tryd.prog.godebug = none := by kernel_rfl
theorem laidOut : laidOutB Tryd.prog = true := by kernel_rfl

/-- The table, as every row of this seat lists it. -/
theorem tabs {W : World} (h : laidMetH Tryd.prog Rows.modesSetRow.laid W) : Tb W := by
  have h' : laidMet Tryd.prog Rows.modesSetRow.laid W := h
  obtain ⟨_, hv, _⟩ := h'
  obtain ⟨g, t, cs, fuel, p, q, hg, hty, hvar, hd, _, _⟩ := hv
  have n0 : Tryd.prog.globalNamed Rows.modesSetRow.laid.head!.1 = some 0 := by kernel_rfl
  obtain rfl := Option.some.inj (n0.symm.trans hg)
  have y0 : (Tryd.prog.globals[0]?).map (·.type) = some 49 := by kernel_rfl
  obtain rfl := Option.some.inj (y0.symm.trans hty)
  have c1 : Tryd.prog.cellsOf 21 = 1 := by kernel_rfl
  have c32 : Tryd.prog.cellsOf 49 = 32 := by kernel_rfl
  obtain ⟨xs, m, _, hx, hl, hxl, hall⟩ := DataW.trod_array Tryd.underlying49 hd
  rw [c32] at hl
  simp only [c1] at hall
  have hlit : (Rows.laid_narrator_modes_replacements (H := TypeId × Value)) = .agg (tab.map fun z => .lit (.int .i32 z)) := rfl
  have hxs := congrArg Prod.fst hx
  have hxs' : DataW.agg (tab.map fun z => DataW.lit (.int .i32 z)) = DataW.agg (xs.map (·.1)) := hxs
  simp only [DataW.agg.injEq] at hxs'
  have each : ∀ i, i < 32 → (cs.toList.drop (i * 1)).take 1 = [.int .i32 (tab.getD i 0)] := by
    intro i hi
    have hi' := hall i hi
    obtain ⟨b, hb⟩ : ∃ b, xs[i]? = some b := ⟨xs[i]'(by omega), List.getElem?_eq_getElem (by omega)⟩
    rw [hb] at hi'
    have hbi : (xs.map (·.1))[i]? = some b.1 := by simp [hb]
    have hti : i < tab.length := hi
    rw [← hxs', List.getElem?_map, List.getElem?_eq_getElem hti] at hbi
    obtain ⟨z, e, hz, _⟩ := DataW.trod_int Tryd.underlying21 hi'
    rw [e]
    rw [hz] at hbi
    simp only [Option.map_some, Option.some.injEq, DataW.lit.injEq, Lit.int.injEq, true_and] at hbi
    rw [List.getD_eq_getElem?_getD, List.getElem?_eq_getElem hti]
    simp [hbi]
  have hcs : cs.toList = tcs.toList := by
    apply List.ext_getElem?
    intro i
    by_cases hi : i < 32
    · have h0 := congrArg (fun l : List Value => l[0]?) (each i hi)
      simp only [Nat.mul_one, List.getElem?_take, List.getElem?_drop, Nat.add_zero, if_pos Nat.zero_lt_one, List.getElem?_cons_zero] at h0
      rw [h0, Array.getElem?_toList, tcs_at i hi]
    · rw [List.getElem?_eq_none (by omega), List.getElem?_eq_none (by show 32 ≤ i; omega)]
  have hcs' : cs = tcs := Array.toList_inj.1 hcs
  subst hcs'
  unfold World.var? at hvar
  rw [hg, Option.bind_some] at hvar
  split at hvar
  · rename_i cs' t' fr' hh
    injection hvar with hvar
    subst hvar
    exact ⟨t', fr', hh⟩
  · cases hvar

/-- The settled world, the table holding what its initialiser lays. -/
noncomputable def laidWorld (os : Os) : World :=
  let w0 := World.holding Tryd.prog os ⟨#[], #[], []⟩
  let put (h : Array Obj) (g : Nat) (cs : Array Value) : Array Obj := h.modify g fun
    | .cells _ t frozen => .cells cs t frozen
    | o => o
  { w0 with heap := put w0.heap 0 tcs }
theorem laid_met (os : Os) (args : Array Value) : laidMet Tryd.prog Rows.modesSetRow.laid ((laidWorld os).forCall (fun _ _ => 0) ⟨#[], args, []⟩).memory :=
  (LaidIn.of_run (l := Rows.modesSetRow.laid) [0] 8 (by kernel_rfl) (by kernel_rfl) (by kernel_rfl) (by kernel_rfl)).met

set_option maxRecDepth 100000 in
/-- The cells of modes, one a field and two for the array. -/
theorem modes_fields {H : Type} {enc : TypeId × Value → H} {W : World} {fuel : Nat} {cs : List Value} {x : DataW H × List MemPlace} (h : DataW.trod enc Tryd.prog W 0 (fun _ => true) true fuel 24 cs = some x) :
    ∃ m : M, cs = #[.bool m.f0, .bool m.f1, .bool m.f2, .bool m.f3, .bool m.f4, .bool m.f5, .bool m.f6, .bool m.f7, .int .u8 m.s0, .int .u8 m.s1, .int .i64 m.sh].toList := by
  obtain ⟨ys, n, _, _, hlen, hyl, hf⟩ := DataW.trod_struct Tryd.underlying24 h
  have c11 : Tryd.prog.cellsOf 24 = 11 := by kernel_rfl
  have k0 : Tryd.prog.cellsOf 4 = 1 := by kernel_rfl
  have k1 : Tryd.prog.cellsOf 3 = 1 := by kernel_rfl
  have k2 : Tryd.prog.cellsOf 22 = 2 := by kernel_rfl
  have k3 : Tryd.prog.cellsOf 5 = 1 := by kernel_rfl
  rw [c11] at hlen
  have hy : ys.length = 10 := hyl
  match cs, hlen, ys, hy with
  | [v0, v1, v2, v3, v4, v5, v6, v7, v8, v9, v10], _, [y0, y1, y2, y3, y4, y5, y6, y7, y8, y9], _ =>
    have g0 : DataW.trod enc Tryd.prog W 0 (fun _ => true) true n 4 (([v0, v1, v2, v3, v4, v5, v6, v7, v8, v9, v10].drop 0).take (Tryd.prog.cellsOf 4)) = some y0 := hf 0 _ rfl
    have g1 : DataW.trod enc Tryd.prog W 0 (fun _ => true) true n 4 (([v0, v1, v2, v3, v4, v5, v6, v7, v8, v9, v10].drop 1).take (Tryd.prog.cellsOf 4)) = some y1 := hf 1 _ rfl
    have g2 : DataW.trod enc Tryd.prog W 0 (fun _ => true) true n 4 (([v0, v1, v2, v3, v4, v5, v6, v7, v8, v9, v10].drop 2).take (Tryd.prog.cellsOf 4)) = some y2 := hf 2 _ rfl
    have g3 : DataW.trod enc Tryd.prog W 0 (fun _ => true) true n 4 (([v0, v1, v2, v3, v4, v5, v6, v7, v8, v9, v10].drop 3).take (Tryd.prog.cellsOf 4)) = some y3 := hf 3 _ rfl
    have g4 : DataW.trod enc Tryd.prog W 0 (fun _ => true) true n 4 (([v0, v1, v2, v3, v4, v5, v6, v7, v8, v9, v10].drop 4).take (Tryd.prog.cellsOf 4)) = some y4 := hf 4 _ rfl
    have g5 : DataW.trod enc Tryd.prog W 0 (fun _ => true) true n 4 (([v0, v1, v2, v3, v4, v5, v6, v7, v8, v9, v10].drop 5).take (Tryd.prog.cellsOf 4)) = some y5 := hf 5 _ rfl
    have g6 : DataW.trod enc Tryd.prog W 0 (fun _ => true) true n 4 (([v0, v1, v2, v3, v4, v5, v6, v7, v8, v9, v10].drop 6).take (Tryd.prog.cellsOf 4)) = some y6 := hf 6 _ rfl
    have g7 : DataW.trod enc Tryd.prog W 0 (fun _ => true) true n 4 (([v0, v1, v2, v3, v4, v5, v6, v7, v8, v9, v10].drop 7).take (Tryd.prog.cellsOf 4)) = some y7 := hf 7 _ rfl
    have g8 : DataW.trod enc Tryd.prog W 0 (fun _ => true) true n 22 (([v0, v1, v2, v3, v4, v5, v6, v7, v8, v9, v10].drop 8).take (Tryd.prog.cellsOf 22)) = some y8 := hf 8 _ rfl
    have g9 : DataW.trod enc Tryd.prog W 0 (fun _ => true) true n 3 (([v0, v1, v2, v3, v4, v5, v6, v7, v8, v9, v10].drop 10).take (Tryd.prog.cellsOf 3)) = some y9 := hf 9 _ rfl
    rw [k0] at g0 g1 g2 g3 g4 g5 g6 g7
    rw [k2] at g8
    rw [k1] at g9
    obtain ⟨x0, e0, _⟩ := DataW.trod_bool Tryd.underlying4 g0
    obtain ⟨x1, e1, _⟩ := DataW.trod_bool Tryd.underlying4 g1
    obtain ⟨x2, e2, _⟩ := DataW.trod_bool Tryd.underlying4 g2
    obtain ⟨x3, e3, _⟩ := DataW.trod_bool Tryd.underlying4 g3
    obtain ⟨x4, e4, _⟩ := DataW.trod_bool Tryd.underlying4 g4
    obtain ⟨x5, e5, _⟩ := DataW.trod_bool Tryd.underlying4 g5
    obtain ⟨x6, e6, _⟩ := DataW.trod_bool Tryd.underlying4 g6
    obtain ⟨x7, e7, _⟩ := DataW.trod_bool Tryd.underlying4 g7
    obtain ⟨x10, e10, _⟩ := DataW.trod_int Tryd.underlying3 g9
    obtain ⟨xs, q, _, _, _, hxl, hall⟩ := DataW.trod_array Tryd.underlying22 g8
    simp only [k3] at hall
    have a0 := hall 0 (by omega)
    have a1 := hall 1 (by omega)
    rw [List.getElem?_eq_getElem (by omega)] at a0 a1
    obtain ⟨x8, e8, _⟩ := DataW.trod_int Tryd.underlying5 a0
    obtain ⟨x9, e9, _⟩ := DataW.trod_int Tryd.underlying5 a1
    simp at e0 e1 e2 e3 e4 e5 e6 e7 e8 e9 e10
    subst e0 e1 e2 e3 e4 e5 e6 e7 e8 e9 e10
    exact ⟨⟨x0, x1, x2, x3, x4, x5, x6, x7, x8, x9, x10⟩, rfl⟩

/-- An argument that is modes. -/
theorem open_modes {H : Type} {enc : TypeId × Value → H} {W : World} {b0 : Nat} {v : Value} {d : DataW H} {p : List MemPlace} (hv : Value.okWide Tryd.prog W .any b0 24 v) (h : DataW.Trod enc Tryd.prog W 0 (fun _ => true) true 24 v d p) :
    ∃ m : M, v = .agg #[.bool m.f0, .bool m.f1, .bool m.f2, .bool m.f3, .bool m.f4, .bool m.f5, .bool m.f6, .bool m.f7, .int .u8 m.s0, .int .u8 m.s1, .int .i64 m.sh] := by
  obtain ⟨cs, rfl, hsz⟩ := okWide_struct Tryd.underlying24 hv
  obtain ⟨fuel, hf⟩ := h
  obtain ⟨m, e⟩ := modes_fields hf
  have e' : cs.toList = (#[.bool m.f0, .bool m.f1, .bool m.f2, .bool m.f3, .bool m.f4, .bool m.f5, .bool m.f6, .bool m.f7, .int .u8 m.s0, .int .u8 m.s1, .int .i64 m.sh] : Array Value).toList := e
  exact ⟨m, by rw [Array.toList_inj.1 e']⟩

theorem bounds_i64 {n : Int} (h : (Lit.int .i64 n).wf = true) : -9223372036854775808 ≤ n ∧ n ≤ 9223372036854775807 := by
  simp [Lit.wf, IntKind.min, IntKind.max, IntKind.signed, IntKind.bits] at h
  omega
/-- An argument that is a slice of numbers reads as a list of numbers. -/
theorem open_nums {H : Type} {enc : TypeId × Value → H} {W : World} {A : Option Addr} {n c : Nat} {d : DataW H} {p : List MemPlace} (h : DataW.Trod enc Tryd.prog W 0 (fun _ => true) true 25 (.slice A n c) d p) :
    ∃ xs : List Int, Nums W W.heap.size A n xs ∧ (A = none → n = 0 ∧ c = 0) ∧ n ≤ 9223372036854775807 ∧ ∀ z ∈ xs, -9223372036854775808 ≤ z ∧ z ≤ 9223372036854775807 := by
  obtain ⟨fuel, hf⟩ := h
  rcases open_ints Tryd.underlying25 Tryd.underlying3 (by kernel_rfl) hf with ⟨hcs, _⟩ | ⟨x, l, cap, zs, hcs, _, hl, hm, hz, _, hcell, hwz⟩
  · simp [Value.cells] at hcs
    obtain ⟨rfl, rfl, rfl⟩ := hcs
    exact ⟨[], ⟨rfl, fun j hj => by omega⟩, fun _ => ⟨rfl, rfl⟩, by omega, fun z hz => by cases hz⟩
  · simp [Value.cells] at hcs
    obtain ⟨rfl, rfl, rfl⟩ := hcs
    have hz : zs.length = c := by simpa using hz
    refine ⟨zs.take n, ⟨by rw [List.length_take]; omega, fun j hj => ?_⟩, (fun e => by cases e), by unfold maxLen at hm; omega, fun z hzm => bounds_i64 (hwz z (List.mem_of_mem_take hzm))⟩
    obtain ⟨b, off, spot⟩ := x
    have hc := hcell j (by omega)
    have hspot : spot = none := by
      have h0 := hcell 0 (by omega)
      simpa [Addr.add] using World.cell?_spot h0
    subst hspot
    have ea : (⟨b, off, none⟩ : Addr).add j = ⟨b, off + j, none⟩ := by
      by_cases h0 : j = 0
      · subst h0; simp [Addr.add]
      · simp [Addr.add, h0]
    rw [ea] at hc
    refine ⟨b, off, rfl, ?_, ?_⟩
    · rcases Nat.lt_or_ge b W.heap.size with hlt | hge
      · exact hlt
      · simp [World.cell?, Array.getElem?_eq_none hge] at hc
    · rw [hc]
      congr 2
      simp [List.getD_eq_getElem?_getD, hj]

set_option maxRecDepth 100000 in
/-- An argument that is a string. -/
theorem open_text {H : Type} {enc : TypeId × Value → H} {W : World} {b0 : Nat} {v : Value} {d : DataW H} {p : List MemPlace} (hv : Value.okWide Tryd.prog W .any b0 9 v) (h : DataW.Trod enc Tryd.prog W 0 (fun _ => true) true 9 v d p) :
    ∃ x : ByteArray, v = .string x ∧ x.size ≤ 9223372036854775807 := by
  have h' := h
  obtain ⟨x, rfl, _, _, _⟩ := Go.ChangeMaps.open_string Tryd.underlying9 hv h
  obtain ⟨fuel, hf⟩ := h'
  obtain ⟨s, e, _, l⟩ := DataW.trod_string Tryd.underlying9 hf
  simp [Value.cells] at e
  subst e
  unfold maxLen at l
  exact ⟨x, rfl, by omega⟩

end Go.Proofs.YtgnkbcflkalhjaaDoor
