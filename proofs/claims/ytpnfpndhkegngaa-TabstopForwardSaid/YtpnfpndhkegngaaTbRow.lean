/-
  The facts that every statement of layer 9 wants of the program; how a slice of truth values, and a struct with one, among the arguments read.
-/
import Derived.Test.YtpnfpndhkegngaaRows
import Derived.Test.YtpnfpndhkegngaaBools
import Derived.ProofKit
import Derived.OpenShut
import Derived.ShutString
import Derived.SizedLaws
import Derived.Lib.LaidIn
import Derived.Lib.SmallJoins
import Derived.Deep.Grids
namespace Go.Proofs.Ytpnfpndhkegngaa
open Go.ChangeShapes Go.WideShapes Go.ChangeAt Go.RowKit

theorem own : ownKnob Try.prog.godebug = none := by kernel_rfl
theorem laidOut : laidOutB Try.prog = true := by kernel_rfl

theorem bounds_u8 {n : Int} (h : (Lit.int .u8 n).wf = true) : 0 ≤ n ∧ n ≤ 255 := by
  simp [Lit.wf, IntKind.min, IntKind.max, IntKind.signed, IntKind.bits] at h
  omega

/-- A slice of truth values among the arguments: it reads as a list of truth values. -/
theorem open_list {H : Type} {enc : TypeId × Value → H} {W : World} {A : Option Addr} {n c fuel : Nat} {x : DataW H × List MemPlace} (hf : DataW.trod enc Try.prog W 0 (fun _ => true) true fuel 22 [.slice A n c] = some x) :
    ∃ xs : List Bool, Nums W W.heap.size A n xs ∧ (A = none → n = 0 ∧ c = 0) ∧ n ≤ 9223372036854775807 := by
  rcases Go.Deep.open_bools Try.underlying22 Try.underlying4 (by kernel_rfl) hf with ⟨hcs, _⟩ | ⟨x, l, cap, F, hcs, _, hl, hm, _, hcell⟩
  · simp at hcs
    obtain ⟨rfl, rfl, rfl⟩ := hcs
    exact ⟨[], ⟨rfl, fun j hj => by omega⟩, fun _ => ⟨rfl, rfl⟩, by omega⟩
  · simp at hcs
    obtain ⟨rfl, rfl, rfl⟩ := hcs
    refine ⟨(List.range n).map F, ⟨by simp, fun j hj => ?_⟩, (fun e => by cases e), by unfold maxLen at hm; omega⟩
    obtain ⟨b, off, spot⟩ := x
    have hc := hcell j (by omega)
    have hspot : spot = none := by
      have h0 := hcell 0 (by omega)
      simpa [Addr.add] using World.cell?_spot h0
    subst hspot
    have ea : (⟨b, off, none⟩ : Addr).add j = ⟨b, off + j, none⟩ := by
      by_cases h0 : j = 0
      · subst h0; simp [Addr.add]
      · simp [Addr.add, h0]
    rw [ea] at hc
    refine ⟨b, off, rfl, ?_, ?_⟩
    · rcases Nat.lt_or_ge b W.heap.size with hlt | hge
      · exact hlt
      · simp [World.cell?, Array.getElem?_eq_none hge] at hc
    · rw [hc]
      congr 2
      simp [List.getD_eq_getElem?_getD, hj]

/-- An argument that is a list, two numbers and a truth value. -/
theorem open_edit {H : Type} {enc : TypeId × Value → H} {W : World} {b0 : Nat} {v : Value} {d : DataW H} {p : List MemPlace} (hv : Value.okWide Try.prog W .any b0 28 v) (h : DataW.Trod enc Try.prog W 0 (fun _ => true) true 28 v d p) :
    ∃ (A : Option Addr) (n c : Nat) (l : List Bool) (x y : Int) (q : Bool), v = .agg #[.slice A n c, .int .i64 x, .int .i64 y, .bool q] ∧ Nums W W.heap.size A n l ∧ (A = none → n = 0 ∧ c = 0) ∧ n ≤ 9223372036854775807 := by
  obtain ⟨v0, v1, v2, v3, y0, y1, y2, y3, fu, rfl, _, _, h0, h1, h2, h3⟩ := Go.Joins.open_agg4 Try.underlying28 (by kernel_rfl) (by kernel_rfl) hv h
  obtain ⟨x1, e1, _⟩ := DataW.trod_int Try.underlying3 h1
  obtain ⟨x2, e2, _⟩ := DataW.trod_int Try.underlying3 h2
  obtain ⟨x3, e3, _⟩ := DataW.trod_bool Try.underlying4 h3
  simp at e1 e2 e3
  subst e1 e2 e3
  rcases Go.Deep.open_bools Try.underlying22 Try.underlying4 (by kernel_rfl) h0 with ⟨hcs, _⟩ | ⟨a, n, c, F, hcs, _, _, _, _, _⟩
  · have e : v0 = .slice none 0 0 := by simpa using hcs
    subst e
    obtain ⟨l, w1, w2, w3⟩ := open_list h0
    exact ⟨none, 0, 0, l, x1, x2, x3, rfl, w1, w2, w3⟩
  · have e : v0 = .slice (some a) n c := by simpa using hcs
    subst e
    obtain ⟨l, w1, w2, w3⟩ := open_list h0
    exact ⟨some a, n, c, l, x1, x2, x3, rfl, w1, w2, w3⟩

end Go.Proofs.Ytpnfpndhkegngaa
