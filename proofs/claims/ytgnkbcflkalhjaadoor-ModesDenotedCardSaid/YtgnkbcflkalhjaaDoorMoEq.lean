/-
  When two modes are the same, and two pairs of bytes: what the comparison of structs with an array returns.
-/
import Derived.Test.YtgnkbcflkalhjaaDoorMoSmall
namespace Go.Proofs.YtgnkbcflkalhjaaDoor
open Go.RowKit Mo

set_option maxRecDepth 100000 in
theorem equalIn_two (d : Nat) (a b a' b' : Int) (w : World) : (Op.equalIn (d + 2) 22 (.agg #[.int .u8 a, .int .u8 b]) (.agg #[.int .u8 a', .int .u8 b'])).run Tryd.prog w = .ok (a == a' && b == b') w := by
  have u0 := Tryd.underlying22
  have u1 := Tryd.underlying5
  have i1 := Tryd.isAgg5
  have z1 := Tryd.sizeOf5
  unfold Op.equalIn
  simp only [Sem.run_bind, run_underlying u0, Result.andThen_ok, z1]
  simp only [Std.Legacy.Range.forIn_eq_forIn_range', Std.Legacy.Range.size]
  by_cases h0 : a = a' <;> by_cases h1 : b = b' <;> simp [h0, h1, List.range'] <;> go_simp <;> simp [h0, h1]

set_option maxRecDepth 100000 in
set_option maxHeartbeats 4000000 in
theorem equalIn_modes (a0 a1 a2 a3 a4 a5 a6 a7 : Bool) (a8 a9 a10 : Int) (b0 b1 b2 b3 b4 b5 b6 b7 : Bool) (b8 b9 b10 : Int) (w : World) : (Op.equalIn 10000 24 (.agg #[.bool a0, .bool a1, .bool a2, .bool a3, .bool a4, .bool a5, .bool a6, .bool a7, .int .u8 a8, .int .u8 a9, .int .i64 a10]) (.agg #[.bool b0, .bool b1, .bool b2, .bool b3, .bool b4, .bool b5, .bool b6, .bool b7, .int .u8 b8, .int .u8 b9, .int .i64 b10])).run Tryd.prog w = .ok (a0 == b0 && (a1 == b1 && (a2 == b2 && (a3 == b3 && (a4 == b4 && (a5 == b5 && (a6 == b6 && (a7 == b7 && ((a8 == b8 && a9 == b9) && a10 == b10))))))))) w := by
  have u0 := Tryd.underlying24
  have u1 := Tryd.underlying4
  have u2 := Tryd.underlying3
  have i0 := Tryd.isAgg4
  have i1 := Tryd.isAgg3
  have i2 := Tryd.isAgg22
  have z0 := Tryd.sizeOf4
  have z1 := Tryd.sizeOf3
  have z2 := Tryd.sizeOf22
  have hh : Tryd.prog.stoodInHeld 24 = false := by kernel_rfl
  have h2 := fun a b a' b' w => equalIn_two 9997 a b a' b' w
  go_simp
  (repeat' split) <;> simp_all

/-- Modes that are the same cell by cell are the same. -/
theorem equalIn_same (a0 a1 a2 a3 a4 a5 a6 a7 : Bool) (a8 a9 a10 : Int) (w : World) : (Op.equalIn 10000 24 (.agg #[.bool a0, .bool a1, .bool a2, .bool a3, .bool a4, .bool a5, .bool a6, .bool a7, .int .u8 a8, .int .u8 a9, .int .i64 a10]) (.agg #[.bool a0, .bool a1, .bool a2, .bool a3, .bool a4, .bool a5, .bool a6, .bool a7, .int .u8 a8, .int .u8 a9, .int .i64 a10])).run Tryd.prog w = .ok true w := by
  rw [equalIn_modes]
  simp
theorem equalIn_dec (x y : M) (w : World) : (Op.equalIn 10000 24 (.agg #[.bool x.f0, .bool x.f1, .bool x.f2, .bool x.f3, .bool x.f4, .bool x.f5, .bool x.f6, .bool x.f7, .int .u8 x.s0, .int .u8 x.s1, .int .i64 x.sh]) (.agg #[.bool y.f0, .bool y.f1, .bool y.f2, .bool y.f3, .bool y.f4, .bool y.f5, .bool y.f6, .bool y.f7, .int .u8 y.s0, .int .u8 y.s1, .int .i64 y.sh])).run Tryd.prog w = .ok (decide (x = y)) w := by
  rw [equalIn_modes]
  obtain ⟨a0, a1, a2, a3, a4, a5, a6, a7, a8, a9, a10⟩ := x
  obtain ⟨b0, b1, b2, b3, b4, b5, b6, b7, b8, b9, b10⟩ := y
  congr 1
  rw [Bool.eq_iff_iff]
  simp [and_assoc]
theorem equalIn_diff (x y : M) (h : x ≠ y) (w : World) : (Op.equalIn 10000 24 (.agg #[.bool x.f0, .bool x.f1, .bool x.f2, .bool x.f3, .bool x.f4, .bool x.f5, .bool x.f6, .bool x.f7, .int .u8 x.s0, .int .u8 x.s1, .int .i64 x.sh]) (.agg #[.bool y.f0, .bool y.f1, .bool y.f2, .bool y.f3, .bool y.f4, .bool y.f5, .bool y.f6, .bool y.f7, .int .u8 y.s0, .int .u8 y.s1, .int .i64 y.sh])).run Tryd.prog w = .ok false w := by
  rw [equalIn_dec, decide_eq_false h]

theorem equalIn_twoS (a b : Int) (w : World) : (Op.equalIn 10000 22 (.agg #[.int .u8 a, .int .u8 b]) (.agg #[.int .u8 a, .int .u8 b])).run Tryd.prog w = .ok true w := by
  rw [equalIn_two]
  simp

end Go.Proofs.YtgnkbcflkalhjaaDoor
