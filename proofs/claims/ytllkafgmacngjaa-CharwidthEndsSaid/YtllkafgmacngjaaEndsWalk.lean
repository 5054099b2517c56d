/-
  The statement on the ends of the ranges of wide characters returns true, for every number.
-/
import Derived.Test.YtllkafgmacngjaaAwake
import Derived.Deep.RegionHeld3
namespace Go.Proofs.Ytllkafgmacngjaa
open Go.RowKit

/-- The two ends of a range, and what lies between them, are wide. -/
theorem wide_hit (k : Nat) (hk : k < 14) {r : Int} (h1 : (Cw.wide.getD k (0, 0)).1 ≤ r) (h2 : r ≤ (Cw.wide.getD k (0, 0)).2) : Cw.wd r = 2 :=
  Cw.wd_wide (Cw.hits_of k hk (by unfold Cw.hit; rw [decide_eq_true h1, decide_eq_true h2]; rfl))
theorem wide_bounds : ∀ k, k < 14 → 0 ≤ (Cw.wide.getD k (0, 0)).1 ∧ (Cw.wide.getD k (0, 0)).1 ≤ (Cw.wide.getD k (0, 0)).2 ∧ (Cw.wide.getD k (0, 0)).2 ≤ 262141 := by decide

/-- What == says of two entries of a table. -/
theorem same_pair (a b c d : Int) (w : World) : (Op.equalIn 10000 30 (.agg #[.int .i32 a, .int .i32 b]) (.agg #[.int .i32 c, .int .i32 d])).run Try.prog w = .ok (a == c && b == d) w := by
  have u3 := Try.underlying21
  have a3 := Try.isAgg21
  have z3 := Try.sizeOf21
  rw [show (10000 : Nat) = 9999 + 1 from rfl, Op.equalIn]
  simp only [Sem.run_bind, run_underlying Try.underlying30, Result.andThen_ok]
  simp only [Std.Legacy.Range.forIn_eq_forIn_range', Std.Legacy.Range.size, Nat.sub_zero, Nat.add_sub_cancel, Nat.div_one, List.range'_succ, List.range'_zero, List.forIn_cons, List.forIn_nil]
  go_simp
  by_cases h1 : a = c <;> by_cases h2 : b = d <;> simp [h1, h2]

set_option maxHeartbeats 4000000 in
set_option maxRecDepth 100000 in
theorem ends_walk (x : Int) (w : World) (hx0 : 0 ≤ x) (hx1 : x ≤ 65535) :
    Calls Try.prog 6 #[.int .u16 x] w fun e w' => e = .returned (.bool true) ∧ Below w.heap.size w w' := by
  have h1 := fun w => width_any 4351 w
  have h2 := fun w => width_any 262142 w
  rw [show Cw.wd 4351 = 1 from by decide] at h1
  rw [show Cw.wd 262142 = 1 from by decide] at h2
  have heq := same_pair
  go_enter Try.func6, Try.ntmps6
  go_wp2_with fail
  refine (table_of (wide_any w)).mono ?_
  rintro e w1 ⟨rfl, hT, hb⟩
  have HB := Lib.hid hb
  clear hb
  have c0 := (hT.2 0 (by decide)).1
  have c1 := (hT.2 0 (by decide)).2
  have c26 := (hT.2 13 (by decide)).1
  have c27 := (hT.2 13 (by decide)).2
  simp only [Nat.zero_mul, Nat.zero_add, Nat.reduceMul, Nat.reduceAdd] at c0 c1 c26 c27
  rw [show (Cw.wide.getD 0 (0, 0)).1 = 4352 from rfl] at c0
  rw [show (Cw.wide.getD 0 (0, 0)).2 = 4447 from rfl] at c1
  rw [show (Cw.wide.getD 13 (0, 0)).1 = 131072 from rfl] at c26
  rw [show (Cw.wide.getD 13 (0, 0)).2 = 262141 from rfl] at c27
  have HT := Lib.hid hT
  clear hT
  go_wp2_with fail
  refine (h1 w1).mono ?_
  rintro e w2 ⟨rfl, b2⟩
  go_wp2_with fail
  refine (h2 w2).mono ?_
  rintro e w3 ⟨rfl, b3⟩
  have B3 : Hid (Below w1.heap.size w1 w3) := Lib.hid (b2.trans (b3.mono b2.size))
  clear b2 b3 c0 c1 c26 c27 h1 h2 heq
  go_wp2
  go_loopg [34] 14 (fun gg s34 wr => ∃ k : Nat, k ≤ 14 ∧ 14 - k ≤ gg ∧ s34 = .int .i64 k ∧ Aside (Below w1.heap.size w1 wr))
  case atStart => exact ⟨0, by omega, by omega, rfl, B3.out⟩
  case round =>
    obtain ⟨k, hk, hg, rfl, BW⟩ := hrel
    have hsz := BW.out.size
    by_cases hkn : k < 14
    · have hz : (k : Int) < 14 := by omega
      have hz0 : (0 : Int) ≤ (k : Int) := by omega
      obtain ⟨a0, a1, a2⟩ := wide_bounds k hkn
      have hw2 := fun r => @wide_hit k hkn r
      have hlt := HT.out.1
      have hne : w.heap.size ≠ wr.heap.size := by omega
      obtain ⟨c1, c2⟩ := HT.out.2 k hkn
      have d1 := (BW.out.cell (p := ⟨w.heap.size, k * 2, none⟩) hlt).trans c1
      have d2 := (BW.out.cell (p := ⟨w.heap.size, k * 2 + 1, none⟩) hlt).trans c2
      clear c1 c2
      obtain ⟨y, hy⟩ : ∃ y, Cw.wide.getD k (0, 0) = y := ⟨_, rfl⟩
      rw [hy] at d1 d2 a0 a1 a2
      rw [hy] at hw2
      clear hy
      obtain ⟨a, b⟩ := y
      simp only at d1 d2 a0 a1 a2 hw2
      obtain ⟨c, rfl⟩ : ∃ c, b = a + c := ⟨b - a, by omega⟩
      have hc0 : 0 ≤ c := by omega
      have hc1 : c ≤ 262141 := by omega
      obtain ⟨m, hm⟩ : ∃ m, x.tmod (c + 1) = m := ⟨_, rfl⟩
      have hme : x.tmod (c + 1) = x % (c + 1) := Int.tmod_eq_emod_of_nonneg hx0
      have hp : 0 ≤ m := by rw [← hm, hme]; exact Int.emod_nonneg x (by omega)
      have hq : m ≤ c := by
        have := Int.emod_lt_of_pos x (show (0 : Int) < c + 1 by omega)
        rw [← hm, hme]
        omega
      have hm2 : x % (c + 1) = m := by rw [← hme, hm]
      clear hme
      have f1 : IntKind.i32.wrap c = c := by rw [IntKind.wrap_i32]; omega
      have f2 : IntKind.i32.wrap (c + 1) = c + 1 := by rw [IntKind.wrap_i32]; omega
      have f3 : IntKind.i64.wrap (c + 1) = c + 1 := by rw [IntKind.wrap_i64]; omega
      have f4 : IntKind.i64.wrap m = m := by rw [IntKind.wrap_i64]; omega
      have f5 : IntKind.i32.wrap m = m := by rw [IntKind.wrap_i32]; omega
      have f6 : IntKind.i32.wrap (a + m) = a + m := by rw [IntKind.wrap_i32]; omega
      have f7 : IntKind.i64.wrap x = x := by rw [IntKind.wrap_i64]; omega
      have f8 : ¬ c + 1 = 0 := by omega
      have f9 : a + c - a = c := by omega
      have e1 : Cw.wd a = 2 := hw2 a (by omega) (by omega)
      have e2 : Cw.wd (a + c) = 2 := hw2 (a + c) (by omega) (by omega)
      have e3 : Cw.wd (a + m) = 2 := hw2 (a + m) (by omega) (by omega)
      have hcall : ∀ (r : Int), Cw.wd r = 2 → ∀ W : World, Calls Try.prog 11 #[.int .i32 r] W fun e w' => e = .returned (.int .i64 2) ∧ Below W.heap.size W w' := fun r hr W => hr ▸ width_any r W
      clear hw2
      have hbox : ∀ {W W' : World}, (W.cell? ⟨wr.heap.size, 0, none⟩ = some (.int .i32 a) ∧ W.cell? ⟨wr.heap.size, 1, none⟩ = some (.int .i32 (a + c)) ∧ Aside (wr.heap.size < W.heap.size ∧ Below w1.heap.size w1 W)) → Below W.heap.size W W' →
          (W'.cell? ⟨wr.heap.size, 0, none⟩ = some (.int .i32 a) ∧ W'.cell? ⟨wr.heap.size, 1, none⟩ = some (.int .i32 (a + c)) ∧ Aside (wr.heap.size < W'.heap.size ∧ Below w1.heap.size w1 W')) :=
        fun {W W'} h hb => ⟨(hb.cell (p := ⟨wr.heap.size, 0, none⟩) h.2.2.out.1).trans h.1, (hb.cell (p := ⟨wr.heap.size, 1, none⟩) h.2.2.out.1).trans h.2.1, ⟨Nat.lt_of_lt_of_le h.2.2.out.1 hb.size, h.2.2.out.2.trans (hb.mono h.2.2.out.2.size)⟩⟩
      go_wp2_with fail
      obtain ⟨W0, hW0⟩ : ∃ W0, wr.alloc (.cells #[.int .i32 a, .int .i32 (a + c)] 30) = W0 := ⟨_, rfl⟩
      have hS0 : W0.drew.cell? ⟨wr.heap.size, 0, none⟩ = some (.int .i32 a) ∧ W0.drew.cell? ⟨wr.heap.size, 1, none⟩ = some (.int .i32 (a + c)) ∧ Aside (wr.heap.size < W0.drew.heap.size ∧ Below w1.heap.size w1 W0.drew) := by
        subst hW0
        refine ⟨World.cell?_alloc_at _ _ _ 0 rfl, World.cell?_alloc_at _ _ _ 1 rfl, ?_, ?_⟩
        · show wr.heap.size < (wr.alloc _).heap.size
          simp
        · have h' := BW.out.alloc hsz (.cells #[.int .i32 a, .int .i32 (a + c)] 30)
          exact ⟨h'.os, h'.tape, h'.output, h'.size, h'.block⟩
      rw [hW0]
      clear hW0 d1 d2
      go_region_held3 (fun w' => w'.cell? ⟨wr.heap.size, 0, none⟩ = some (.int .i32 a) ∧ w'.cell? ⟨wr.heap.size, 1, none⟩ = some (.int .i32 (a + c)) ∧ Aside (wr.heap.size < w'.heap.size ∧ Below w1.heap.size w1 w'))
        (assumption)
        (first | (go_at_call 11; refine (hcall _ (by with_reducible assumption) _).mono ?_; rintro e w' ⟨rfl, hb'⟩; have hs' := hbox (by assumption) hb'))
      have hfin : Aside (wr.heap.size < w'.heap.size ∧ Below w1.heap.size w1 w') := hs'.2.2
      clear e1 e2 e3
      go_wp2
      go_roundg (14 - (k + 1))
      case measure => omega
      case rel => exact ⟨k + 1, by omega, by omega, by go_num, hfin.out.2⟩
    · have hz : ¬ (k : Int) < 14 := by omega
      go_wp2_with fail
      refine (awake_any wr).mono ?_
      rintro e w4 ⟨rfl, b4⟩
      go_wp2
      go_ret
      have s0 := HB.out.size
      exact ⟨rfl, (HB.out.trans (BW.out.mono s0)).trans (b4.mono (by omega))⟩

end Go.Proofs.Ytllkafgmacngjaa
