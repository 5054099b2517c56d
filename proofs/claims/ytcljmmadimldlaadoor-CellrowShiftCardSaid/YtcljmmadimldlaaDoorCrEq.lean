/-
  Cells compared by == and !=.
-/
import Derived.Test.YtcljmmadimldlaaDoorCrCell
import Derived.Laws.StructEq
namespace Go.Proofs.YtcljmmadimldlaaDoor
open Go.RowKit Cr

theorem bytes_eq (a b : ByteArray) : (a.toList == b.toList) = decide (a = b) := by
  rw [ByteArray.toList_eq, ByteArray.toList_eq]
  by_cases h : a = b
  · subst h; simp
  · rw [decide_eq_false h]
    have h' : ¬ a.data = b.data := fun e => h (by cases a; cases b; cases e; rfl)
    simpa using h'
set_option maxRecDepth 100000 in
set_option maxHeartbeats 1000000 in
theorem equalIn_cell (t t' : ByteArray) (x x' f f' b b' g g' : Int) (w : World) : (Op.equalIn 10000 48 (.agg #[.string t, .int .i64 x, .int .i64 f, .int .i64 b, .int .i64 g]) (.agg #[.string t', .int .i64 x', .int .i64 f', .int .i64 b', .int .i64 g'])).run Tryd.prog w = .ok (decide ((⟨t, x, f, b, g⟩ : C) = ⟨t', x', f', b', g'⟩)) w := by
  have hb := bytes_eq t t'
  have e : decide ((⟨t, x, f, b, g⟩ : C) = ⟨t', x', f', b', g'⟩) = (decide (t = t') && (x == x' && (f == f' && (b == b' && g == g')))) := by
    by_cases h0 : t = t' <;> by_cases h1 : x = x' <;> by_cases h2 : f = f' <;> by_cases h3 : b = b' <;> by_cases h4 : g = g' <;> simp [h0, h1, h2, h3, h4]
  rw [e]
  have u0 := Tryd.underlying48
  have u1 := Tryd.underlying24
  have u2 := Tryd.underlying9
  have u3 := Tryd.underlying3
  have i0 := Tryd.isAgg9
  have i1 := Tryd.isAgg3
  have i2 := Tryd.isAgg24
  have z0 := Tryd.sizeOf9
  have z1 := Tryd.sizeOf3
  have z2 := Tryd.sizeOf24
  have hh : Tryd.prog.stoodInHeld 48 = false := by kernel_rfl
  have hh2 : Tryd.prog.stoodInHeld 24 = false := by kernel_rfl
  go_simp
  by_cases h0 : t = t' <;> by_cases h1 : x = x' <;> by_cases h2 : f = f' <;> by_cases h3 : b = b' <;> by_cases h4 : g = g' <;> simp [h0, h1, h2, h3, h4]
theorem neq_cell (t t' : ByteArray) (x x' f f' b b' g g' : Int) (w : World) : (binOp .neq 48 (.agg #[.string t, .int .i64 x, .int .i64 f, .int .i64 b, .int .i64 g]) (.agg #[.string t', .int .i64 x', .int .i64 f', .int .i64 b', .int .i64 g'])).run Tryd.prog w = .ok (.bool (!decide ((⟨t, x, f, b, g⟩ : C) = ⟨t', x', f', b', g'⟩))) w := by
  rw [run_neq_struct, equalIn_cell]
  rfl

end Go.Proofs.YtcljmmadimldlaaDoor
