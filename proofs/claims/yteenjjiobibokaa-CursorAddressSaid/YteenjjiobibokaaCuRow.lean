/-
  The facts that every statement of layer 10 wants of the program; how a cursor and bounds among the arguments read.
-/
import Derived.Test.YteenjjiobibokaaRows
import Derived.Test.YteenjjiobibokaaCuSmall
import Derived.ProofKit
import Derived.OpenShut
import Derived.ShutString
import Derived.SizedLaws
import Derived.Lib.LaidIn
import Derived.Lib.SmallJoins
import Derived.Deep.Fields
namespace Go.Proofs.Yteenjjiobibokaa
open Go.ChangeShapes Go.WideShapes Go.ChangeAt Go.RowKit

theorem own : ownKnob Try.prog.godebug = none := by kernel_rfl
theorem laidOut : laidOutB Try.prog = true := by kernel_rfl

theorem bounds_u8 {n : Int} (h : (Lit.int .u8 n).wf = true) : 0 ≤ n ∧ n ≤ 255 := by
  simp [Lit.wf, IntKind.min, IntKind.max, IntKind.signed, IntKind.bits] at h
  omega

/-- An argument that is a cursor. -/
theorem open_cursor {H : Type} {enc : TypeId × Value → H} {W : World} {b0 : Nat} {v : Value} {d : DataW H} {p : List MemPlace} (hv : Value.okWide Try.prog W .any b0 23 v) (h : DataW.Trod enc Try.prog W 0 (fun _ => true) true 23 v d p) :
    ∃ (r c : Int) (q : Bool), v = .agg #[.int .i64 r, .int .i64 c, .bool q] := by
  obtain ⟨v0, v1, v2, y0, y1, y2, n, rfl, _, _, h0, h1, h2⟩ := Go.Joins.open_agg3 Try.underlying23 (by kernel_rfl) (by kernel_rfl) hv h
  obtain ⟨x0, e0, _⟩ := DataW.trod_int Try.underlying3 h0
  obtain ⟨x1, e1, _⟩ := DataW.trod_int Try.underlying3 h1
  obtain ⟨x2, e2, _⟩ := DataW.trod_bool Try.underlying4 h2
  simp at e0 e1 e2
  subst e0 e1 e2
  exact ⟨x0, x1, x2, rfl⟩

set_option maxRecDepth 100000 in
/-- The cells of bounds, one a field. -/
theorem bounds_fields {H : Type} {enc : TypeId × Value → H} {W : World} {fuel : Nat} {cs : List Value} {x : DataW H × List MemPlace} (h : DataW.trod enc Try.prog W 0 (fun _ => true) true fuel 25 cs = some x) :
    ∃ (a b c d : Int) (q : Bool), cs = [.int .i64 a, .int .i64 b, .int .i64 c, .int .i64 d, .bool q] := by
  obtain ⟨ys, n, _, _, hlen, hyl, hf⟩ := DataW.trod_struct Try.underlying25 h
  have c5 : Try.prog.cellsOf 25 = 5 := by kernel_rfl
  have k0 : Try.prog.cellsOf 3 = 1 := by kernel_rfl
  have k4 : Try.prog.cellsOf 4 = 1 := by kernel_rfl
  rw [c5] at hlen
  have hy5 : ys.length = 5 := hyl
  match cs, hlen, ys, hy5 with
  | [v0, v1, v2, v3, v4], _, [y0, y1, y2, y3, y4], _ =>
    have g0 : DataW.trod enc Try.prog W 0 (fun _ => true) true n 3 (([v0, v1, v2, v3, v4].drop 0).take (Try.prog.cellsOf 3)) = some y0 := hf 0 _ rfl
    have g1 : DataW.trod enc Try.prog W 0 (fun _ => true) true n 3 (([v0, v1, v2, v3, v4].drop 1).take (Try.prog.cellsOf 3)) = some y1 := hf 1 _ rfl
    have g2 : DataW.trod enc Try.prog W 0 (fun _ => true) true n 3 (([v0, v1, v2, v3, v4].drop 2).take (Try.prog.cellsOf 3)) = some y2 := hf 2 _ rfl
    have g3 : DataW.trod enc Try.prog W 0 (fun _ => true) true n 3 (([v0, v1, v2, v3, v4].drop 3).take (Try.prog.cellsOf 3)) = some y3 := hf 3 _ rfl
    have g4 : DataW.trod enc Try.prog W 0 (fun _ => true) true n 4 (([v0, v1, v2, v3, v4].drop 4).take (Try.prog.cellsOf 4)) = some y4 := hf 4 _ rfl
    rw [k0] at g0 g1 g2 g3
    rw [k4] at g4
    obtain ⟨x0, e0, _⟩ := DataW.trod_int Try.underlying3 g0
    obtain ⟨x1, e1, _⟩ := DataW.trod_int Try.underlying3 g1
    obtain ⟨x2, e2, _⟩ := DataW.trod_int Try.underlying3 g2
    obtain ⟨x3, e3, _⟩ := DataW.trod_int Try.underlying3 g3
    obtain ⟨x4, e4, _⟩ := DataW.trod_bool Try.underlying4 g4
    simp at e0 e1 e2 e3 e4
    subst e0 e1 e2 e3 e4
    exact ⟨x0, x1, x2, x3, x4, rfl⟩

/-- An argument that is bounds. -/
theorem open_bounds {H : Type} {enc : TypeId × Value → H} {W : World} {b0 : Nat} {v : Value} {d : DataW H} {p : List MemPlace} (hv : Value.okWide Try.prog W .any b0 25 v) (h : DataW.Trod enc Try.prog W 0 (fun _ => true) true 25 v d p) :
    ∃ (a b c d : Int) (q : Bool), v = .agg #[.int .i64 a, .int .i64 b, .int .i64 c, .int .i64 d, .bool q] := by
  obtain ⟨cs, rfl, hsz⟩ := okWide_struct Try.underlying25 hv
  obtain ⟨fuel, hf⟩ := h
  have c5 : Try.prog.cellsOf 25 = 5 := by kernel_rfl
  rw [c5] at hsz
  obtain ⟨l⟩ := cs
  match l, hsz with
  | [v0, v1, v2, v3, v4], _ =>
    obtain ⟨a, b, c, d, q, e⟩ := bounds_fields hf
    have e' : [v0, v1, v2, v3, v4] = [.int .i64 a, .int .i64 b, .int .i64 c, .int .i64 d, .bool q] := e
    simp only [List.cons.injEq, and_true] at e'
    obtain ⟨rfl, rfl, rfl, rfl, rfl⟩ := e'
    exact ⟨a, b, c, d, q, rfl⟩

end Go.Proofs.Yteenjjiobibokaa
