/-
  What New, Shift, Designate of modes return, and the document's own ones.
-/
import Derived.Test.YtgnkbcflkalhjaaDoorMoSmall
namespace Go.Proofs.YtgnkbcflkalhjaaDoor
open Go.RowKit Mo

theorem bytes_eq (a b : ByteArray) : (a.toList == b.toList) = decide (a = b) := by
  rw [ByteArray.toList_eq, ByteArray.toList_eq]
  by_cases h : a = b
  · subst h; simp
  · rw [decide_eq_false h]
    have h' : ¬ a.data = b.data := fun e => h (by cases a; cases b; cases e; rfl)
    simpa using h'

set_option maxHeartbeats 1000000 in
set_option maxRecDepth 100000 in
theorem new_any (w : World) : Calls Tryd.prog 12 #[] w fun e w' => e = .returned (.agg #[.bool new.f0, .bool new.f1, .bool new.f2, .bool new.f3, .bool new.f4, .bool new.f5, .bool new.f6, .bool new.f7, .int .u8 new.s0, .int .u8 new.s1, .int .i64 new.sh]) ∧ Below w.heap.size w w' := by
  go_enter Tryd.func12, Tryd.ntmps12
  go_wp2
  refine bodyPost_ret (res_m rfl _ _ w.heap.size new rfl (Md.laid w new)) rfl ⟨rfl, below_alloc _ _⟩
set_option maxHeartbeats 1000000 in
set_option maxRecDepth 100000 in
theorem refNew_any (w : World) : Calls Tryd.prog 13 #[] w fun e w' => e = .returned (.agg #[.bool new.f0, .bool new.f1, .bool new.f2, .bool new.f3, .bool new.f4, .bool new.f5, .bool new.f6, .bool new.f7, .int .u8 new.s0, .int .u8 new.s1, .int .i64 new.sh]) ∧ Below w.heap.size w w' := by
  go_enter Tryd.func13, Tryd.ntmps13
  go_wp2
  refine bodyPost_ret (res_m rfl _ _ w.heap.size new rfl (Md.laid w new)) rfl ⟨rfl, below_alloc _ _⟩

set_option maxHeartbeats 1000000 in
set_option maxRecDepth 100000 in
theorem active_any (m : M) (w : World) : Calls Tryd.prog 27 #[.agg #[.bool m.f0, .bool m.f1, .bool m.f2, .bool m.f3, .bool m.f4, .bool m.f5, .bool m.f6, .bool m.f7, .int .u8 m.s0, .int .u8 m.s1, .int .i64 m.sh]] w fun e w' => e = .returned (.int .u8 (act m)) ∧ Below w.heap.size w w' := by
  have HB := Lib.hid (below_alloc w (.cells #[.bool m.f0, .bool m.f1, .bool m.f2, .bool m.f3, .bool m.f4, .bool m.f5, .bool m.f6, .bool m.f7, .int .u8 m.s0, .int .u8 m.s1, .int .i64 m.sh] 24))
  by_cases h : m.sh = 1
  · have e1 : (m.sh == 1) = true := by simp [h]
    have HA : act m = m.s1 := if_pos h
    rw [HA]
    clear h HA
    go_enter Tryd.func27, Tryd.ntmps27
    go_wp2
    go_ret
    exact ⟨rfl, HB.out⟩
  · have e1 : (m.sh == 1) = false := by simp [h]
    have HA : act m = m.s0 := if_neg h
    rw [HA]
    clear h HA
    go_enter Tryd.func27, Tryd.ntmps27
    go_wp2
    go_ret
    exact ⟨rfl, HB.out⟩

set_option maxHeartbeats 1000000 in
set_option maxRecDepth 100000 in
theorem shift_any (m : M) (i : Int) (w : World) : Calls Tryd.prog 18 #[.agg #[.bool m.f0, .bool m.f1, .bool m.f2, .bool m.f3, .bool m.f4, .bool m.f5, .bool m.f6, .bool m.f7, .int .u8 m.s0, .int .u8 m.s1, .int .i64 m.sh], .int .i64 i] w fun e w' => e = .returned (.agg #[.bool (shift m i).f0, .bool (shift m i).f1, .bool (shift m i).f2, .bool (shift m i).f3, .bool (shift m i).f4, .bool (shift m i).f5, .bool (shift m i).f6, .bool (shift m i).f7, .int .u8 (shift m i).s0, .int .u8 (shift m i).s1, .int .i64 (shift m i).sh]) ∧ Below w.heap.size w w' := by
  by_cases h : i = 0 ∨ i = 1
  · have HA : shift m i = { m with sh := i } := if_pos h
    rw [HA]
    clear HA
    rcases h with rfl | rfl
    · go_enter Tryd.func18, Tryd.ntmps18
      go_wp2
      exact bodyPost_ret (res_m rfl _ _ (w.heap.size + 1) { m with sh := 0 } rfl (Md.put _ (by simp) { m with sh := 0 })) rfl ⟨rfl, below_step (below_alloc _ _) (below_alloc _ _)⟩
    · go_enter Tryd.func18, Tryd.ntmps18
      go_wp2
      exact bodyPost_ret (res_m rfl _ _ (w.heap.size + 1) { m with sh := 1 } rfl (Md.put _ (by simp) { m with sh := 1 })) rfl ⟨rfl, below_step (below_alloc _ _) (below_alloc _ _)⟩
  · have e1 : (i == 0) = false := by simp; omega
    have e2 : (i == 1) = false := by simp; omega
    have HA : shift m i = m := if_neg h
    rw [HA]
    clear h HA
    go_enter Tryd.func18, Tryd.ntmps18
    go_wp2
    exact bodyPost_ret (res_m rfl _ _ (w.heap.size + 1) m rfl (Md.put _ (by simp) m)) rfl ⟨rfl, below_step (below_alloc _ _) (below_alloc _ _)⟩

set_option maxHeartbeats 1000000 in
set_option maxRecDepth 100000 in
theorem refShift_any (m : M) (i : Int) (w : World) : Calls Tryd.prog 19 #[.agg #[.bool m.f0, .bool m.f1, .bool m.f2, .bool m.f3, .bool m.f4, .bool m.f5, .bool m.f6, .bool m.f7, .int .u8 m.s0, .int .u8 m.s1, .int .i64 m.sh], .int .i64 i] w fun e w' => e = .returned (.agg #[.bool (shift m i).f0, .bool (shift m i).f1, .bool (shift m i).f2, .bool (shift m i).f3, .bool (shift m i).f4, .bool (shift m i).f5, .bool (shift m i).f6, .bool (shift m i).f7, .int .u8 (shift m i).s0, .int .u8 (shift m i).s1, .int .i64 (shift m i).sh]) ∧ Below w.heap.size w w' := by
  by_cases h : i = 0 ∨ i = 1
  · have HA : shift m i = { m with sh := i } := if_pos h
    rw [HA]
    clear HA
    rcases h with rfl | rfl
    · go_enter Tryd.func19, Tryd.ntmps19
      go_wp2
      exact bodyPost_ret (res_m rfl _ _ (w.heap.size + 1) { m with sh := 0 } rfl (Md.put _ (by simp) { m with sh := 0 })) rfl ⟨rfl, below_step (below_alloc _ _) (below_alloc _ _)⟩
    · go_enter Tryd.func19, Tryd.ntmps19
      go_wp2
      exact bodyPost_ret (res_m rfl _ _ (w.heap.size + 1) { m with sh := 1 } rfl (Md.put _ (by simp) { m with sh := 1 })) rfl ⟨rfl, below_step (below_alloc _ _) (below_alloc _ _)⟩
  · have e1 : (i == 0) = false := by simp; omega
    have e2 : (i == 1) = false := by simp; omega
    have HA : shift m i = m := if_neg h
    rw [HA]
    clear h HA
    go_enter Tryd.func19, Tryd.ntmps19
    go_wp2
    exact bodyPost_ret (res_m rfl _ _ (w.heap.size + 1) m rfl (Md.put _ (by simp) m)) rfl ⟨rfl, below_step (below_alloc _ _) (below_alloc _ _)⟩

set_option maxHeartbeats 2000000 in
set_option maxRecDepth 100000 in
theorem desig_any (m : M) (x : ByteArray) (c : Int) (w : World) : Calls Tryd.prog 16 #[.agg #[.bool m.f0, .bool m.f1, .bool m.f2, .bool m.f3, .bool m.f4, .bool m.f5, .bool m.f6, .bool m.f7, .int .u8 m.s0, .int .u8 m.s1, .int .i64 m.sh], .string x, .int .u8 c] w fun e w' => e = .returned (.agg #[.bool (desig m x c).f0, .bool (desig m x c).f1, .bool (desig m x c).f2, .bool (desig m x c).f3, .bool (desig m x c).f4, .bool (desig m x c).f5, .bool (desig m x c).f6, .bool (desig m x c).f7, .int .u8 (desig m x c).s0, .int .u8 (desig m x c).s1, .int .i64 (desig m x c).sh]) ∧ Below w.heap.size w w' := by
  have cs : (c = 66 ∨ c = 48) ∨ (c ≠ 66 ∧ c ≠ 48) := by omega
  rcases cs with hc | ⟨h1, h2⟩
  · by_cases hx : x = ⟨#[40]⟩
    · subst hx
      have HA : desig m ⟨#[40]⟩ c = { m with s0 := c } := by unfold desig; rw [if_pos hc, if_pos rfl]
      rw [HA]
      clear HA
      rcases hc with rfl | rfl
      · go_enter Tryd.func16, Tryd.ntmps16
        go_wp2
        exact bodyPost_ret (res_m rfl _ _ (w.heap.size + 1) { m with s0 := 66 } rfl (Md.put _ (by simp) { m with s0 := 66 })) rfl ⟨rfl, below_step (below_alloc _ _) (below_alloc _ _)⟩
      · go_enter Tryd.func16, Tryd.ntmps16
        go_wp2
        exact bodyPost_ret (res_m rfl _ _ (w.heap.size + 1) { m with s0 := 48 } rfl (Md.put _ (by simp) { m with s0 := 48 })) rfl ⟨rfl, below_step (below_alloc _ _) (below_alloc _ _)⟩
    · by_cases hy : x = ⟨#[41]⟩
      · subst hy
        have HA : desig m ⟨#[41]⟩ c = { m with s1 := c } := by unfold desig; rw [if_pos hc, if_neg hx, if_pos rfl]
        rw [HA]
        clear HA hx
        rcases hc with rfl | rfl
        · go_enter Tryd.func16, Tryd.ntmps16
          go_wp2
          exact bodyPost_ret (res_m rfl _ _ (w.heap.size + 1) { m with s1 := 66 } rfl (Md.put _ (by simp) { m with s1 := 66 })) rfl ⟨rfl, below_step (below_alloc _ _) (below_alloc _ _)⟩
        · go_enter Tryd.func16, Tryd.ntmps16
          go_wp2
          exact bodyPost_ret (res_m rfl _ _ (w.heap.size + 1) { m with s1 := 48 } rfl (Md.put _ (by simp) { m with s1 := 48 })) rfl ⟨rfl, below_step (below_alloc _ _) (below_alloc _ _)⟩
      · have HA : desig m x c = m := by unfold desig; rw [if_pos hc, if_neg hx, if_neg hy]
        rw [HA]
        have e1 : (x.toList == (⟨#[40]⟩ : ByteArray).toList) = false := by rw [bytes_eq]; exact decide_eq_false hx
        rw [show (⟨#[40]⟩ : ByteArray).toList = [40] by rw [ByteArray.toList_eq]] at e1
        have e2 : (x.toList == (⟨#[41]⟩ : ByteArray).toList) = false := by rw [bytes_eq]; exact decide_eq_false hy
        rw [show (⟨#[41]⟩ : ByteArray).toList = [41] by rw [ByteArray.toList_eq]] at e2
        clear HA hx hy
        rcases hc with rfl | rfl
        · go_enter Tryd.func16, Tryd.ntmps16
          go_wp2
          exact bodyPost_ret (res_m rfl _ _ (w.heap.size + 1) m rfl (Md.put _ (by simp) m)) rfl ⟨rfl, below_step (below_alloc _ _) (below_alloc _ _)⟩
        · go_enter Tryd.func16, Tryd.ntmps16
          go_wp2
          exact bodyPost_ret (res_m rfl _ _ (w.heap.size + 1) m rfl (Md.put _ (by simp) m)) rfl ⟨rfl, below_step (below_alloc _ _) (below_alloc _ _)⟩
  · have HA : desig m x c = m := by unfold desig; rw [if_neg (by omega)]
    rw [HA]
    have e1 : (c != 66) = true := by simp [h1]
    have e2 : (c != 48) = true := by simp [h2]
    clear HA h1 h2
    go_enter Tryd.func16, Tryd.ntmps16
    go_wp2
    exact bodyPost_ret (res_m rfl _ _ (w.heap.size + 1) m rfl (Md.put _ (by simp) m)) rfl ⟨rfl, below_step (below_alloc _ _) (below_alloc _ _)⟩

set_option maxHeartbeats 2000000 in
set_option maxRecDepth 100000 in
theorem refDesig_any (m : M) (x : ByteArray) (c : Int) (w : World) : Calls Tryd.prog 17 #[.agg #[.bool m.f0, .bool m.f1, .bool m.f2, .bool m.f3, .bool m.f4, .bool m.f5, .bool m.f6, .bool m.f7, .int .u8 m.s0, .int .u8 m.s1, .int .i64 m.sh], .string x, .int .u8 c] w fun e w' => e = .returned (.agg #[.bool (desig m x c).f0, .bool (desig m x c).f1, .bool (desig m x c).f2, .bool (desig m x c).f3, .bool (desig m x c).f4, .bool (desig m x c).f5, .bool (desig m x c).f6, .bool (desig m x c).f7, .int .u8 (desig m x c).s0, .int .u8 (desig m x c).s1, .int .i64 (desig m x c).sh]) ∧ Below w.heap.size w w' := by
  have cs : (c = 66 ∨ c = 48) ∨ (c ≠ 66 ∧ c ≠ 48) := by omega
  rcases cs with hc | ⟨h1, h2⟩
  · by_cases hx : x = ⟨#[40]⟩
    · subst hx
      have HA : desig m ⟨#[40]⟩ c = { m with s0 := c } := by unfold desig; rw [if_pos hc, if_pos rfl]
      rw [HA]
      clear HA
      rcases hc with rfl | rfl
      · go_enter Tryd.func17, Tryd.ntmps17
        go_wp2
        exact bodyPost_ret (res_m rfl _ _ (w.heap.size + 1) { m with s0 := 66 } rfl (Md.put _ (by simp) { m with s0 := 66 })) rfl ⟨rfl, below_step (below_alloc _ _) (below_alloc _ _)⟩
      · go_enter Tryd.func17, Tryd.ntmps17
        go_wp2
        exact bodyPost_ret (res_m rfl _ _ (w.heap.size + 1) { m with s0 := 48 } rfl (Md.put _ (by simp) { m with s0 := 48 })) rfl ⟨rfl, below_step (below_alloc _ _) (below_alloc _ _)⟩
    · by_cases hy : x = ⟨#[41]⟩
      · subst hy
        have HA : desig m ⟨#[41]⟩ c = { m with s1 := c } := by unfold desig; rw [if_pos hc, if_neg hx, if_pos rfl]
        rw [HA]
        clear HA hx
        rcases hc with rfl | rfl
        · go_enter Tryd.func17, Tryd.ntmps17
          go_wp2
          exact bodyPost_ret (res_m rfl _ _ (w.heap.size + 1) { m with s1 := 66 } rfl (Md.put _ (by simp) { m with s1 := 66 })) rfl ⟨rfl, below_step (below_alloc _ _) (below_alloc _ _)⟩
        · go_enter Tryd.func17, Tryd.ntmps17
          go_wp2
          exact bodyPost_ret (res_m rfl _ _ (w.heap.size + 1) { m with s1 := 48 } rfl (Md.put _ (by simp) { m with s1 := 48 })) rfl ⟨rfl, below_step (below_alloc _ _) (below_alloc _ _)⟩
      · have HA : desig m x c = m := by unfold desig; rw [if_pos hc, if_neg hx, if_neg hy]
        rw [HA]
        have e1 : (x.toList == (⟨#[40]⟩ : ByteArray).toList) = false := by rw [bytes_eq]; exact decide_eq_false hx
        rw [show (⟨#[40]⟩ : ByteArray).toList = [40] by rw [ByteArray.toList_eq]] at e1
        have e2 : (x.toList == (⟨#[41]⟩ : ByteArray).toList) = false := by rw [bytes_eq]; exact decide_eq_false hy
        rw [show (⟨#[41]⟩ : ByteArray).toList = [41] by rw [ByteArray.toList_eq]] at e2
        clear HA hx hy
        rcases hc with rfl | rfl
        · go_enter Tryd.func17, Tryd.ntmps17
          go_wp2
          exact bodyPost_ret (res_m rfl _ _ (w.heap.size + 1) m rfl (Md.put _ (by simp) m)) rfl ⟨rfl, below_step (below_alloc _ _) (below_alloc _ _)⟩
        · go_enter Tryd.func17, Tryd.ntmps17
          go_wp2
          exact bodyPost_ret (res_m rfl _ _ (w.heap.size + 1) m rfl (Md.put _ (by simp) m)) rfl ⟨rfl, below_step (below_alloc _ _) (below_alloc _ _)⟩
  · have HA : desig m x c = m := by unfold desig; rw [if_neg (by omega)]
    rw [HA]
    have e1 : (c != 66) = true := by simp [h1]
    have e2 : (c != 48) = true := by simp [h2]
    clear HA h1 h2
    go_enter Tryd.func17, Tryd.ntmps17
    go_wp2
    exact bodyPost_ret (res_m rfl _ _ (w.heap.size + 1) m rfl (Md.put _ (by simp) m)) rfl ⟨rfl, below_step (below_alloc _ _) (below_alloc _ _)⟩

end Go.Proofs.YtgnkbcflkalhjaaDoor
