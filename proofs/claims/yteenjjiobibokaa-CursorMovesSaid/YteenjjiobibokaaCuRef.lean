/-
  What the document's own start, Clamp, Feed and Reverse return.
-/
import Derived.Test.YteenjjiobibokaaCuRight
import Derived.Deep.RegionHeld3
import Derived.Deep.RegionLaw
namespace Go.Proofs.Yteenjjiobibokaa
open Go.RowKit Cu

/-- The same memory, with the result last: what the facts of a call's beginning are. -/
theorem call_facts (w : World) (r c W H T E : Int) (O p : Bool) : ∃ V, (((w.alloc (.cells #[.int .i64 r, .int .i64 c, .bool p] 23)).alloc (.cells #[.int .i64 W, .int .i64 H, .int .i64 T, .int .i64 E, .bool O] 25)).alloc (.cells #[.int .i64 0, .int .i64 0, .bool false] 23)) = V ∧ ∀ U, Below V.heap.size V U → Below w.heap.size w U ∧ Cr U w.heap.size r c p ∧ Bd U (w.heap.size + 1) W H T E O ∧ Cr U (w.heap.size + 1 + 1) 0 0 false ∧ w.heap.size + 3 ≤ U.heap.size :=
  ⟨_, rfl, call_mem w r c W H T E O p⟩

theorem store3_other (U : World) {k j : Nat} (x y z : Value) (h : j ≠ k) : (((U.setCell ⟨k, 0, none⟩ x).setCell ⟨k, 1, none⟩ y).setCell ⟨k, 2, none⟩ z).heap[j]? = U.heap[j]? := by
  rw [heap_setCell_other _ _ _ _ h, heap_setCell_other _ _ _ _ h, heap_setCell_other _ _ _ _ h]

set_option maxHeartbeats 2000000 in
set_option maxRecDepth 100000 in
theorem refStart_any (W H T E r c : Int) (O p : Bool) (h : Ok W H T E) (w : World) :
    Calls Try.prog 29 #[.agg #[.int .i64 r, .int .i64 c, .bool p], .agg #[.int .i64 W, .int .i64 H, .int .i64 T, .int .i64 E, .bool O]] w
      fun e w' => e = .returned (.agg #[.int .i64 (lim r 0 (H - 1)), .int .i64 (lim c 0 (W - 1)), .bool false]) ∧ Below w.heap.size w w' := by
  obtain ⟨a1, a2, a3, a4, a5, a6, a7⟩ := h
  have C1 := Lib.hid (fun W' => refLim_any r 0 (H - 1) (by omega) W')
  have C2 := Lib.hid (fun W' => refLim_any c 0 (W - 1) (by omega) W')
  generalize lim r 0 (H - 1) = r' at C1 ⊢
  generalize lim c 0 (W - 1) = c' at C2 ⊢
  have wH : IntKind.i64.wrap (H - 1) = H - 1 := by rw [IntKind.wrap_i64]; omega
  have wW : IntKind.i64.wrap (W - 1) = W - 1 := by rw [IntKind.wrap_i64]; omega
  obtain ⟨V, hV, k⟩ := call_facts w r c W H T E O p
  have kV := k V.drew (Below.refl _ _).drew
  have u0 := kV.2.1.c0
  have u1 := kV.2.1.c1
  have m0 := kV.2.2.1.c0
  have m1 := kV.2.2.1.c1
  have r0 := kV.2.2.2.1.z 0
  have r1 := kV.2.2.2.1.z 1
  have r2 := kV.2.2.2.1.z 2
  have y0 := kV.2.2.2.1.c0
  have y1 := kV.2.2.2.1.c1
  have y2 := kV.2.2.2.1.c2
  have Q1 := Lib.hid kV.1
  have Q4 := Lib.hid kV.2.2.2.1
  have kW := k V (Below.refl _ _)
  have s0 := kW.2.2.2.1.z 0
  have s1 := kW.2.2.2.1.z 1
  have s2 := kW.2.2.2.1.z 2
  have x0 := kW.2.2.2.1.c0
  have x1 := kW.2.2.2.1.c1
  have x2 := kW.2.2.2.1.c2
  have Q5 := Lib.hid kW.1
  have Q6 := Lib.hid kW.2.2.2.1
  clear k kV kW
  have sS : ∀ {U : World} (x y z : Value), (U.cell? ⟨w.heap.size, 0, none⟩ = some (.int .i64 r) ∧ U.cell? ⟨w.heap.size, 1, none⟩ = some (.int .i64 c) ∧ U.cell? ⟨w.heap.size + 1, 0, none⟩ = some (.int .i64 W) ∧ U.cell? ⟨w.heap.size + 1, 1, none⟩ = some (.int .i64 H)) → ((((U.setCell ⟨w.heap.size + 1 + 1, 0, none⟩ x).setCell ⟨w.heap.size + 1 + 1, 1, none⟩ y).setCell ⟨w.heap.size + 1 + 1, 2, none⟩ z).cell? ⟨w.heap.size, 0, none⟩ = some (.int .i64 r) ∧ (((U.setCell ⟨w.heap.size + 1 + 1, 0, none⟩ x).setCell ⟨w.heap.size + 1 + 1, 1, none⟩ y).setCell ⟨w.heap.size + 1 + 1, 2, none⟩ z).cell? ⟨w.heap.size, 1, none⟩ = some (.int .i64 c) ∧ (((U.setCell ⟨w.heap.size + 1 + 1, 0, none⟩ x).setCell ⟨w.heap.size + 1 + 1, 1, none⟩ y).setCell ⟨w.heap.size + 1 + 1, 2, none⟩ z).cell? ⟨w.heap.size + 1, 0, none⟩ = some (.int .i64 W) ∧ (((U.setCell ⟨w.heap.size + 1 + 1, 0, none⟩ x).setCell ⟨w.heap.size + 1 + 1, 1, none⟩ y).setCell ⟨w.heap.size + 1 + 1, 2, none⟩ z).cell? ⟨w.heap.size + 1, 1, none⟩ = some (.int .i64 H)) := fun {U} x y z hs =>
    ⟨(World.cell?_of_block (a := ⟨w.heap.size, 0, none⟩) (store3_other (k := w.heap.size + 1 + 1) (j := w.heap.size) U x y z (by omega))).trans hs.1, (World.cell?_of_block (a := ⟨w.heap.size, 1, none⟩) (store3_other (k := w.heap.size + 1 + 1) (j := w.heap.size) U x y z (by omega))).trans hs.2.1, (World.cell?_of_block (a := ⟨w.heap.size + 1, 0, none⟩) (store3_other (k := w.heap.size + 1 + 1) (j := w.heap.size + 1) U x y z (by omega))).trans hs.2.2.1, (World.cell?_of_block (a := ⟨w.heap.size + 1, 1, none⟩) (store3_other (k := w.heap.size + 1 + 1) (j := w.heap.size + 1) U x y z (by omega))).trans hs.2.2.2⟩
  have sD : ∀ {U : World} (x y z : Value), (U.drew.cell? ⟨w.heap.size, 0, none⟩ = some (.int .i64 r) ∧ U.drew.cell? ⟨w.heap.size, 1, none⟩ = some (.int .i64 c) ∧ U.drew.cell? ⟨w.heap.size + 1, 0, none⟩ = some (.int .i64 W) ∧ U.drew.cell? ⟨w.heap.size + 1, 1, none⟩ = some (.int .i64 H)) → ((((U.setCell ⟨w.heap.size + 1 + 1, 0, none⟩ x).setCell ⟨w.heap.size + 1 + 1, 1, none⟩ y).setCell ⟨w.heap.size + 1 + 1, 2, none⟩ z).drew.cell? ⟨w.heap.size, 0, none⟩ = some (.int .i64 r) ∧ (((U.setCell ⟨w.heap.size + 1 + 1, 0, none⟩ x).setCell ⟨w.heap.size + 1 + 1, 1, none⟩ y).setCell ⟨w.heap.size + 1 + 1, 2, none⟩ z).drew.cell? ⟨w.heap.size, 1, none⟩ = some (.int .i64 c) ∧ (((U.setCell ⟨w.heap.size + 1 + 1, 0, none⟩ x).setCell ⟨w.heap.size + 1 + 1, 1, none⟩ y).setCell ⟨w.heap.size + 1 + 1, 2, none⟩ z).drew.cell? ⟨w.heap.size + 1, 0, none⟩ = some (.int .i64 W) ∧ (((U.setCell ⟨w.heap.size + 1 + 1, 0, none⟩ x).setCell ⟨w.heap.size + 1 + 1, 1, none⟩ y).setCell ⟨w.heap.size + 1 + 1, 2, none⟩ z).drew.cell? ⟨w.heap.size + 1, 1, none⟩ = some (.int .i64 H)) := fun {U} x y z hs => sS (U := U) x y z hs
  have hS : V.drew.cell? ⟨w.heap.size, 0, none⟩ = some (.int .i64 r) ∧ V.drew.cell? ⟨w.heap.size, 1, none⟩ = some (.int .i64 c) ∧ V.drew.cell? ⟨w.heap.size + 1, 0, none⟩ = some (.int .i64 W) ∧ V.drew.cell? ⟨w.heap.size + 1, 1, none⟩ = some (.int .i64 H) := ⟨u0, u1, m0, m1⟩
  go_enter Try.func29, Try.ntmps29
  go_wp2_with fail
  clear hV
  go_region_held3 (fun U => U.cell? ⟨w.heap.size, 0, none⟩ = some (.int .i64 r) ∧ U.cell? ⟨w.heap.size, 1, none⟩ = some (.int .i64 c) ∧ U.cell? ⟨w.heap.size + 1, 0, none⟩ = some (.int .i64 W) ∧ U.cell? ⟨w.heap.size + 1, 1, none⟩ = some (.int .i64 H))
    (first | assumption | (refine sD _ _ _ ?_; assumption) | (refine sS _ _ _ ?_; assumption))
    (first
    | (go_at_call 32; (with_reducible refine (C1.out _).mono ?_); rintro e w2 ⟨rfl, rfl⟩)
    | (go_at_call 32; (with_reducible refine (C2.out _).mono ?_); rintro e w2 ⟨rfl, rfl⟩))
  all_goals
    go_wp2
    refine bodyPost_ret (res_c rfl _ _ (w.heap.size + 1 + 1) r' c' false rfl (Q6.out.store3 _ _ _)) rfl ⟨rfl, ?_⟩
    first
      | exact (below_store3 Q5.out (by omega) _ _ _).drew
      | exact below_store3 Q1.out (by omega) _ _ _

end Go.Proofs.Yteenjjiobibokaa
