/-
  The table of the special graphics in its variable; what Map of modes returns, and the document's own Map.
-/
import Derived.Test.YtgnkbcflkalhjaaDoorMoFuncs
namespace Go.Proofs.YtgnkbcflkalhjaaDoor
open Go.RowKit Mo

/-- The cells of the table. -/
def tcs : Array Value := #[.int .i32 160, .int .i32 9670, .int .i32 9618, .int .i32 9225, .int .i32 9228, .int .i32 9229, .int .i32 9226, .int .i32 176, .int .i32 177, .int .i32 9252, .int .i32 9227, .int .i32 9496, .int .i32 9488, .int .i32 9484, .int .i32 9492, .int .i32 9532, .int .i32 9146, .int .i32 9147, .int .i32 9472, .int .i32 9148, .int .i32 9149, .int .i32 9500, .int .i32 9508, .int .i32 9524, .int .i32 9516, .int .i32 9474, .int .i32 8804, .int .i32 8805, .int .i32 960, .int .i32 8800, .int .i32 163, .int .i32 183]
theorem tcs_list : tcs = (tab.map (Value.int .i32)).toArray := rfl
theorem tabL_at (k : Nat) (hk : k < 32) : (tab.map (Value.int .i32))[k]? = some (.int .i32 (tab.getD k 0)) := by
  have hl : k < tab.length := hk
  rw [List.getElem?_map, List.getD_eq_getElem?_getD, List.getElem?_eq_getElem hl]
  rfl
theorem tcs_at (k : Nat) (hk : k < 32) : tcs[k]? = some (.int .i32 (tab.getD k 0)) := by
  have hl : k < tab.length := hk
  rw [tcs_list, List.getElem?_toArray, List.getElem?_map, List.getD_eq_getElem?_getD, List.getElem?_eq_getElem hl]
  rfl
/-- The table lies in its variable. -/
def Tb (w : World) : Prop := ∃ t fr, w.heap[0]? = some (.cells tcs t fr)
theorem Tb.lt {w : World} (h : Tb w) : 0 < w.heap.size := by
  obtain ⟨t, fr, h⟩ := h
  exact lt_of_block h
theorem Tb.below {w w' : World} (h : Tb w) (hb : Below w.heap.size w w') : Tb w' := by
  have hl := h.lt
  obtain ⟨t, fr, h⟩ := h
  exact ⟨t, fr, (hb.block _ hl).trans h⟩
theorem Tb.at {w : World} (h : Tb w) (k : Nat) (hk : k < 32) : w.cell? ⟨0, k, none⟩ = some (.int .i32 (tab.getD k 0)) := by
  obtain ⟨t, fr, h⟩ := h
  exact (cell_of_row w _ k _ _ _ h).trans (tcs_at k hk)

theorem wrap_i32 (n : Int) : IntKind.i32.wrap n = (n + 2147483648) % 4294967296 - 2147483648 := by
  unfold IntKind.wrap
  simp [IntKind.signed, IntKind.bits]
  split <;> omega
theorem map_cases (s r : Int) : (s ≠ 48 ∧ mapc s r = r) ∨ (s = 48 ∧ r < 95 ∧ mapc s r = r) ∨ (s = 48 ∧ ¬ r < 95 ∧ 126 < r ∧ mapc s r = r) ∨ (s = 48 ∧ ∃ k : Nat, k < 32 ∧ r = 95 + k ∧ mapc s r = tab.getD k 0) := by
  by_cases h : s = 48
  · by_cases h1 : r < 95
    · exact .inr (.inl ⟨h, h1, if_neg (by omega)⟩)
    · by_cases h2 : 126 < r
      · exact .inr (.inr (.inl ⟨h, h1, h2, if_neg (by omega)⟩))
      · refine .inr (.inr (.inr ⟨h, (r - 95).toNat, by omega, by omega, if_pos ⟨h, by omega, by omega⟩⟩))
  · exact .inl ⟨h, if_neg (fun e => h e.1)⟩

set_option maxHeartbeats 2000000 in
set_option maxRecDepth 100000 in
theorem map_any (m : M) (r : Int) (w : World) (hT : Tb w) : Calls Tryd.prog 20 #[.agg #[.bool m.f0, .bool m.f1, .bool m.f2, .bool m.f3, .bool m.f4, .bool m.f5, .bool m.f6, .bool m.f7, .int .u8 m.s0, .int .u8 m.s1, .int .i64 m.sh], .int .i32 r] w fun e w' => e = .returned (.int .i32 (mapc (act m) r)) ∧ Below w.heap.size w w' := by
  have HB := Lib.hid (below_alloc w (.cells #[.bool m.f0, .bool m.f1, .bool m.f2, .bool m.f3, .bool m.f4, .bool m.f5, .bool m.f6, .bool m.f7, .int .u8 m.s0, .int .u8 m.s1, .int .i64 m.sh] 24))
  have C := Lib.hid (fun U => active_any m U)
  have HT := Lib.hid (hT.below (below_alloc w (.cells #[.bool m.f0, .bool m.f1, .bool m.f2, .bool m.f3, .bool m.f4, .bool m.f5, .bool m.f6, .bool m.f7, .int .u8 m.s0, .int .u8 m.s1, .int .i64 m.sh] 24)))
  clear hT
  generalize act m = s at C ⊢
  rcases map_cases s r with ⟨h1, hm⟩ | ⟨h1, h2, hm⟩ | ⟨h1, h2, h3, hm⟩ | ⟨h1, k, hk, rfl, hm⟩
  · rw [hm]
    have e2 : (s == 48) = false := by simp [h1]
    clear h1 hm
    go_enter Tryd.func20, Tryd.ntmps20
    go_wp2_with fail
    refine (C.out _).mono ?_
    rintro e w1 ⟨rfl, b1⟩
    have B1 := Lib.hid (below_step HB.out b1)
    clear b1 HB C HT
    go_wp2
    go_ret
    exact ⟨rfl, B1.out⟩
  · rw [hm]
    have e2 : (s == 48) = true := by simp [h1]
    have e3 : ¬ 95 ≤ r := by omega
    clear h2
    clear h1 hm
    go_enter Tryd.func20, Tryd.ntmps20
    go_wp2_with fail
    refine (C.out _).mono ?_
    rintro e w1 ⟨rfl, b1⟩
    have B1 := Lib.hid (below_step HB.out b1)
    clear b1 HB C HT
    go_wp2
    go_ret
    exact ⟨rfl, B1.out⟩
  · rw [hm]
    have e2 : (s == 48) = true := by simp [h1]
    have e3 : 95 ≤ r := by omega
    have e4 : ¬ r ≤ 126 := by omega
    clear h2 h3
    clear h1 hm
    go_enter Tryd.func20, Tryd.ntmps20
    go_wp2_with fail
    refine (C.out _).mono ?_
    rintro e w1 ⟨rfl, b1⟩
    have B1 := Lib.hid (below_step HB.out b1)
    clear b1 HB C HT
    go_wp2
    go_ret
    exact ⟨rfl, B1.out⟩
  · rw [hm]
    have e2 : (s == 48) = true := by simp [h1]
    have e3 : 95 ≤ 95 + (k : Int) := by omega
    have e4 : 95 + (k : Int) ≤ 126 := by omega
    have e5 : IntKind.i32.wrap (95 + (k : Int) - 95) = k := by rw [wrap_i32]; omega
    have e6 : (k : Int) < 32 := by omega
    have e7 : (0 : Int) ≤ (k : Int) := by omega
    have HK := Lib.hid (fun (U : World) (h : Tb U) => h.at k hk)
    generalize tab.getD k 0 = y at HK ⊢
    clear h1 hm
    go_enter Tryd.func20, Tryd.ntmps20
    go_wp2_with fail
    refine (C.out _).mono ?_
    rintro e w1 ⟨rfl, b1⟩
    have B1 := Lib.hid (below_step HB.out b1)
    have e8 := HK.out w1 (HT.out.below b1)
    clear b1 HB C HT
    go_wp2
    go_ret
    exact ⟨rfl, B1.out⟩

set_option maxHeartbeats 2000000 in
set_option maxRecDepth 100000 in
theorem refMap_any (m : M) (r : Int) (w : World) : Calls Tryd.prog 21 #[.agg #[.bool m.f0, .bool m.f1, .bool m.f2, .bool m.f3, .bool m.f4, .bool m.f5, .bool m.f6, .bool m.f7, .int .u8 m.s0, .int .u8 m.s1, .int .i64 m.sh], .int .i32 r] w fun e w' => e = .returned (.int .i32 (mapc (act m) r)) ∧ Below w.heap.size w w' := by
  have HB := Lib.hid (below_alloc w (.cells #[.bool m.f0, .bool m.f1, .bool m.f2, .bool m.f3, .bool m.f4, .bool m.f5, .bool m.f6, .bool m.f7, .int .u8 m.s0, .int .u8 m.s1, .int .i64 m.sh] 24))
  have HB2 := Lib.hid (below_step (below_alloc w (.cells #[.bool m.f0, .bool m.f1, .bool m.f2, .bool m.f3, .bool m.f4, .bool m.f5, .bool m.f6, .bool m.f7, .int .u8 m.s0, .int .u8 m.s1, .int .i64 m.sh] 24)) (below_alloc _ (.cells #[.int .i32 160, .int .i32 9670, .int .i32 9618, .int .i32 9225, .int .i32 9228, .int .i32 9229, .int .i32 9226, .int .i32 176, .int .i32 177, .int .i32 9252, .int .i32 9227, .int .i32 9496, .int .i32 9488, .int .i32 9484, .int .i32 9492, .int .i32 9532, .int .i32 9146, .int .i32 9147, .int .i32 9472, .int .i32 9148, .int .i32 9149, .int .i32 9500, .int .i32 9508, .int .i32 9524, .int .i32 9516, .int .i32 9474, .int .i32 8804, .int .i32 8805, .int .i32 960, .int .i32 8800, .int .i32 163, .int .i32 183] 21)))
  by_cases h : m.sh = 1
  · have e1 : (m.sh == 1) = true := by simp [h]
    have HA : act m = m.s1 := if_pos h
    rw [HA]
    clear HA h
    rcases map_cases m.s1 r with ⟨h1, hm⟩ | ⟨h1, h2, hm⟩ | ⟨h1, h2, h3, hm⟩ | ⟨h1, k, hk, rfl, hm⟩
    · rw [hm]
      have e2 : (m.s1 != 48) = true := by simp [h1]
      clear h1 hm
      go_enter Tryd.func21, Tryd.ntmps21
      go_wp2
      go_ret
      exact ⟨rfl, HB.out⟩
    · rw [hm]
      have e2 : (m.s1 != 48) = false := by simp [h1]
      have e3 : r < 95 := by omega
      clear h1 hm h2
      go_enter Tryd.func21, Tryd.ntmps21
      go_wp2
      go_ret
      exact ⟨rfl, HB.out⟩
    · rw [hm]
      have e2 : (m.s1 != 48) = false := by simp [h1]
      have e3 : ¬ r < 95 := by omega
      clear h1 hm h2
      go_enter Tryd.func21, Tryd.ntmps21
      go_wp2
      go_ret
      exact ⟨rfl, HB.out⟩
    · rw [hm]
      have e2 : (m.s1 != 48) = false := by simp [h1]
      have e3 : ¬ (95 + (k : Int)) < 95 := by omega
      have e4 : ¬ 126 < (95 + (k : Int)) := by omega
      have e5 : IntKind.i32.wrap (95 + (k : Int) - 95) = k := by rw [wrap_i32]; omega
      have e6 : (k : Int) < 32 := by omega
      have e7 : (0 : Int) ≤ (k : Int) := by omega
      have e8 : ([.int .i32 160, .int .i32 9670, .int .i32 9618, .int .i32 9225, .int .i32 9228, .int .i32 9229, .int .i32 9226, .int .i32 176, .int .i32 177, .int .i32 9252, .int .i32 9227, .int .i32 9496, .int .i32 9488, .int .i32 9484, .int .i32 9492, .int .i32 9532, .int .i32 9146, .int .i32 9147, .int .i32 9472, .int .i32 9148, .int .i32 9149, .int .i32 9500, .int .i32 9508, .int .i32 9524, .int .i32 9516, .int .i32 9474, .int .i32 8804, .int .i32 8805, .int .i32 960, .int .i32 8800, .int .i32 163, .int .i32 183] : List Value)[k]? = some (.int .i32 (tab.getD k 0)) := tabL_at k hk
      generalize tab.getD k 0 = y at e8 ⊢
      have E8 := Lib.hid (fun (h : k < ([.int .i32 160, .int .i32 9670, .int .i32 9618, .int .i32 9225, .int .i32 9228, .int .i32 9229, .int .i32 9226, .int .i32 176, .int .i32 177, .int .i32 9252, .int .i32 9227, .int .i32 9496, .int .i32 9488, .int .i32 9484, .int .i32 9492, .int .i32 9532, .int .i32 9146, .int .i32 9147, .int .i32 9472, .int .i32 9148, .int .i32 9149, .int .i32 9500, .int .i32 9508, .int .i32 9524, .int .i32 9516, .int .i32 9474, .int .i32 8804, .int .i32 8805, .int .i32 960, .int .i32 8800, .int .i32 163, .int .i32 183] : List Value).length) => Option.some.inj ((List.getElem?_eq_getElem h).symm.trans e8))
      clear e8
      clear h1 hm
      go_enter Tryd.func21, Tryd.ntmps21
      go_wp2
      go_ret
      exact ⟨ret_ptr (E8.out _), HB2.out⟩
  · have e1 : (m.sh == 1) = false := by simp [h]
    have HA : act m = m.s0 := if_neg h
    rw [HA]
    clear HA h
    rcases map_cases m.s0 r with ⟨h1, hm⟩ | ⟨h1, h2, hm⟩ | ⟨h1, h2, h3, hm⟩ | ⟨h1, k, hk, rfl, hm⟩
    · rw [hm]
      have e2 : (m.s0 != 48) = true := by simp [h1]
      clear h1 hm
      go_enter Tryd.func21, Tryd.ntmps21
      go_wp2
      go_ret
      exact ⟨rfl, HB.out⟩
    · rw [hm]
      have e2 : (m.s0 != 48) = false := by simp [h1]
      have e3 : r < 95 := by omega
      clear h1 hm h2
      go_enter Tryd.func21, Tryd.ntmps21
      go_wp2
      go_ret
      exact ⟨rfl, HB.out⟩
    · rw [hm]
      have e2 : (m.s0 != 48) = false := by simp [h1]
      have e3 : ¬ r < 95 := by omega
      clear h1 hm h2
      go_enter Tryd.func21, Tryd.ntmps21
      go_wp2
      go_ret
      exact ⟨rfl, HB.out⟩
    · rw [hm]
      have e2 : (m.s0 != 48) = false := by simp [h1]
      have e3 : ¬ (95 + (k : Int)) < 95 := by omega
      have e4 : ¬ 126 < (95 + (k : Int)) := by omega
      have e5 : IntKind.i32.wrap (95 + (k : Int) - 95) = k := by rw [wrap_i32]; omega
      have e6 : (k : Int) < 32 := by omega
      have e7 : (0 : Int) ≤ (k : Int) := by omega
      have e8 : ([.int .i32 160, .int .i32 9670, .int .i32 9618, .int .i32 9225, .int .i32 9228, .int .i32 9229, .int .i32 9226, .int .i32 176, .int .i32 177, .int .i32 9252, .int .i32 9227, .int .i32 9496, .int .i32 9488, .int .i32 9484, .int .i32 9492, .int .i32 9532, .int .i32 9146, .int .i32 9147, .int .i32 9472, .int .i32 9148, .int .i32 9149, .int .i32 9500, .int .i32 9508, .int .i32 9524, .int .i32 9516, .int .i32 9474, .int .i32 8804, .int .i32 8805, .int .i32 960, .int .i32 8800, .int .i32 163, .int .i32 183] : List Value)[k]? = some (.int .i32 (tab.getD k 0)) := tabL_at k hk
      generalize tab.getD k 0 = y at e8 ⊢
      have E8 := Lib.hid (fun (h : k < ([.int .i32 160, .int .i32 9670, .int .i32 9618, .int .i32 9225, .int .i32 9228, .int .i32 9229, .int .i32 9226, .int .i32 176, .int .i32 177, .int .i32 9252, .int .i32 9227, .int .i32 9496, .int .i32 9488, .int .i32 9484, .int .i32 9492, .int .i32 9532, .int .i32 9146, .int .i32 9147, .int .i32 9472, .int .i32 9148, .int .i32 9149, .int .i32 9500, .int .i32 9508, .int .i32 9524, .int .i32 9516, .int .i32 9474, .int .i32 8804, .int .i32 8805, .int .i32 960, .int .i32 8800, .int .i32 163, .int .i32 183] : List Value).length) => Option.some.inj ((List.getElem?_eq_getElem h).symm.trans e8))
      clear e8
      clear h1 hm
      go_enter Tryd.func21, Tryd.ntmps21
      go_wp2
      go_ret
      exact ⟨ret_ptr (E8.out _), HB2.out⟩

end Go.Proofs.YtgnkbcflkalhjaaDoor
