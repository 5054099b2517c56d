/-
  slices.Repeat of one cell, and blanks.
-/
import Derived.Test.YtcljmmadimldlaaDoorCrSmall
import Derived.Laws.CopyRow
import Derived.Laws.MakeOwn
namespace Go.Proofs.YtcljmmadimldlaaDoor
open Go.RowKit Cr

theorem run_copy5 (ty : TypeId) (w : World) (g o dLen dCap : Nat) (a : Addr) (sLen sCap : Nat) (cur : Array Value) (cs : List Value) (m : Nat)
    (hg : w.heap[g]? = some (.cells cur 48 (0, 0))) (hm : min sLen dLen = m) (hn : cs.length = m * 5)
    (hsrc : ∀ j v, cs[j]? = some v → w.cell? (a.add j) = some v) (hfit : o + cs.length ≤ cur.size) (h1 : ∀ v ∈ cs, v.oneCell' = true) :
    (Builtin.copy_ #[22, 22] ty #[.slice (some ⟨g, o, none⟩) dLen dCap, .slice (some a) sLen sCap]).run Tryd.prog w =
      .ok (.int .i64 (m : Int)) (w.setRow g (cur.toList.take o ++ cs ++ cur.toList.drop (o + cs.length)).toArray) := by
  obtain ⟨i0, hi, hz0, hz1, hz2⟩ := info_parts Tryd.infoCell
  have hm' : Nat.min sLen dLen = m := hm
  have hl := run_loadCells_list (P := Tryd.prog) w a cs hsrc
  have hst := run_storeCells_at Tryd.prog g o 48 cs 0 cur w hg (by simpa using hfit) h1
  simp [Builtin.copy_, run_underlying Tryd.underlying22, Builtin.lenOf, Builtin.firstCells, sizeOf, typeInfo, hi, hz1, hm', ← hn, hl, hst, goInt]

/-- A row of n cells whose first k are c. -/
def Part (w : World) (g n k : Nat) (c : C) : Prop := ∃ cur : Array Value, w.heap[g]? = some (.cells cur 48 (0, 0)) ∧ cur.size = n * 5 ∧ cur.toList.take (k * 5) = flat (List.replicate k c)
theorem below_setRow {B : Nat} {a w : World} (h : Below B a w) {g : Nat} (hg : B ≤ g) (cs : Array Value) : Below B a (w.setRow g cs) :=
  ⟨h.os, h.tape, h.output, by simpa [World.setRow] using h.size, fun k hk => (setRow_other w g k cs (by omega)).trans (h.block k hk)⟩
theorem Part.step {w : World} {g n k m : Nat} {c : C} (ty : TypeId) (h : Part w g n k c) (hm : min k (n - k) = m) (hk : k ≤ n) :
    ∃ w', (Builtin.copy_ #[22, 22] ty #[.slice (some ⟨g, k * 5, none⟩) (n - k) (n - k), .slice (some ⟨g, 0, none⟩) k n]).run Tryd.prog w = .ok (.int .i64 (m : Int)) w' ∧ Part w' g n (k + m) c ∧ ∀ B a, B ≤ g → Below B a w → Below B a w' := by
  obtain ⟨cur, hg, hs, ht⟩ := h
  have hmk : m ≤ k ∧ m ≤ n - k := by omega
  have hmul : m * 5 ≤ k * 5 ∧ (k + m) * 5 = k * 5 + m * 5 ∧ (k + m) * 5 ≤ n * 5 := by omega
  have hcs : (cur.toList.take (m * 5)) = flat (List.replicate m c) := by
    have : cur.toList.take (m * 5) = (cur.toList.take (k * 5)).take (m * 5) := by rw [List.take_take, Nat.min_eq_left hmul.1]
    rw [this, ht, flat_take, List.take_replicate, Nat.min_eq_left hmk.1]
  have hrun := run_copy5 ty w g (k * 5) (n - k) (n - k) ⟨g, 0, none⟩ k n cur (flat (List.replicate m c)) m hg hm (by rw [flat_length, List.length_replicate]) (fun j v hj => by
    rw [addr_add, Nat.zero_add]
    rw [← hcs, List.getElem?_take] at hj
    split at hj
    · simp [World.cell?, hg]
      simpa using hj
    · cases hj) (by rw [flat_length, List.length_replicate]; omega) (fun v hv => flat_one hv)
  refine ⟨_, hrun, ⟨_, setRow_heap w g cur _ 48 _ hg, ?_, ?_⟩, fun B a hB hb => below_setRow hb hB _⟩
  · simp [flat_length]
    omega
  · have e1 : (cur.toList.take (k * 5)).length = k * 5 := by rw [List.length_take, Array.length_toList]; omega
    rw [List.toList_toArray, List.take_append_of_le_length (by rw [List.length_append, e1, flat_length, List.length_replicate]; omega), List.take_of_length_le (by rw [List.length_append, e1, flat_length, List.length_replicate]; omega), ht, ← flat_app, List.replicate_append_replicate]
theorem Part.own {w0 w : World} {g n : Nat} {c : C} (h : Part w g n n c) (hb : Below w0.heap.size w0 w) (hg : w0.heap.size ≤ g) (hn : n ≤ 1000) : Own w0 w (.slice (some ⟨g, 0, none⟩) n n) (List.replicate n c) := by
  obtain ⟨cur, h1, h2, h3⟩ := h
  refine ⟨⟨by rw [flat_length], .inr ⟨g, n, cur, by rw [List.length_replicate], hg, h1, by rw [List.length_replicate]; exact Nat.le_refl _, by unfold maxLen; omega, h2, by rw [List.length_replicate]; exact h3⟩⟩, hb⟩
theorem made (w : World) (n : Nat) (hn : n ≤ 1000) (c : C) : ∃ w', (Instr.makeSlice 22 (.int .i64 (n : Int)) (.int .i64 (n : Int))).run Tryd.prog w = .ok (.slice (some ⟨w.heap.size, 0, none⟩) n n) w' ∧ Part w' w.heap.size n 0 c ∧ Below w.heap.size w w' := by
  obtain ⟨i0, hi, hz0, hz1, hz2⟩ := info_parts Tryd.infoCell
  have h := run_makeSlice (P := Tryd.prog) w 22 48 i0 _ Tryd.underlying22 hi hz0 .i64 .i64 (n : Int) (n : Int) (by omega) (Int.le_refl _) (by rw [hz1]; simp; omega) (by rw [hz2]; omega) (by omega)
  refine ⟨_, h, ⟨_, heap_alloc_new w _, ?_, by simp [flat]⟩, (Below.refl _ _).alloc (Nat.le_refl _) _⟩
  rw [size_madeCells, hz1]
  simp

set_option maxHeartbeats 2000000 in
set_option maxRecDepth 100000 in
theorem repeat_any (c : C) (n : Nat) (hn : n ≤ 1000) (b off cap : Nat) (w : World) (hr : Rd w (some ⟨b, off, none⟩) 1 [c]) :
    Calls Tryd.prog 57 #[.slice (some ⟨b, off, none⟩) 1 cap, .int .i64 (n : Int)] w fun e w' => ∃ g, e = .returned (.slice (some ⟨g, 0, none⟩) n n) ∧ Own w w' (.slice (some ⟨g, 0, none⟩) n n) (List.replicate n c) := by
  have hn0 : (0 : Int) ≤ (n : Int) := by omega
  have hn1 : (n : Int) ≤ 1000 := by omega
  have CM := Lib.hid (fun W => mul_one_any n hn W)
  obtain ⟨w1, hmk, hp, hb1⟩ := made w n hn c
  -- the first copy
  obtain ⟨m0, hm0⟩ : ∃ m0, min 1 n = m0 := ⟨_, rfl⟩
  have hm1 : m0 ≤ 1 ∧ m0 ≤ n ∧ (m0 = 0 → n = 0) := by omega
  obtain ⟨w2, hc1, hp2, hb2⟩ : ∃ w2, (Builtin.copy_ #[22, 22] 3 #[.slice (some ⟨w.heap.size, 0, none⟩) n n, .slice (some ⟨b, off, none⟩) 1 cap]).run Tryd.prog w1 = .ok (.int .i64 (m0 : Int)) w2 ∧ Part w2 w.heap.size n m0 c ∧ Below w.heap.size w w2 := by
    obtain ⟨cur, hg, hs, _⟩ := hp
    have hr1 := hr.below hb1
    have hcm : m0 * 5 ≤ n * 5 := by omega
    have hrun := run_copy5 3 w1 w.heap.size 0 n n ⟨b, off, none⟩ 1 cap cur (flat (List.replicate m0 c)) m0 hg hm0 (by rw [flat_length, List.length_replicate]) (fun j v hj => by
      rw [addr_add]
      refine hr1.cells j v ?_
      rcases Nat.lt_or_ge m0 1 with h | h
      · have : m0 = 0 := by omega
        subst this
        simp [flat] at hj
      · have : m0 = 1 := by omega
        subst this
        exact hj) (by rw [flat_length, List.length_replicate]; omega) (fun v hv => flat_one hv)
    refine ⟨_, hrun, ⟨_, setRow_heap w1 w.heap.size cur _ 48 _ hg, ?_, ?_⟩, below_setRow hb1 (Nat.le_refl _) _⟩
    · simp [flat_length]
      omega
    · rw [List.toList_toArray, List.take_zero, List.nil_append, List.take_append_of_le_length (by rw [flat_length, List.length_replicate]; exact Nat.le_refl _), List.take_of_length_le (by rw [flat_length, List.length_replicate]; exact Nat.le_refl _)]
  clear hp hb1 hr hm0
  have HP2 := Lib.hid hp2
  have HB2 := Lib.hid hb2
  have HM := Lib.hid hm1
  clear hp2 hb2 hm1
  go_enter Tryd.func57, Tryd.ntmps57
  go_wp2_with fail
  refine (CM.out _).mono ?_
  rintro e w0 ⟨rfl, rfl⟩
  go_wp2
  go_loopg [8] (n + 1) (fun gk v8 wr => ∃ k : Nat, n < gk + k ∧ k ≤ n ∧ v8 = .int .i64 (k : Int) ∧ Aside (Part wr w.heap.size n k c ∧ Below w.heap.size w wr ∧ (k = 0 → n = 0)))
  case atStart => exact ⟨m0, by have := HM.out; omega, HM.out.2.1, rfl, HP2.out, HB2.out, HM.out.2.2⟩
  case round =>
    obtain ⟨k, hg, hkn, rfl, hA⟩ := hrel
    by_cases hlt : k < n
    · obtain ⟨g', rfl⟩ : ∃ g', gk = g' + 1 := ⟨gk - 1, by omega⟩
      have hz : (k : Int) < (n : Int) := by omega
      have hz0 : (0 : Int) ≤ (k : Int) := by omega
      have hzn : (k : Int) ≤ (n : Int) := by omega
      obtain ⟨m, hm⟩ : ∃ m, min k (n - k) = m := ⟨_, rfl⟩
      obtain ⟨w3, hc, hp3, hb3⟩ := Part.step (w := wr.drew) 3 hA.out.1 hm hkn
      have HP3 := Lib.hid hp3
      have HB3 := Lib.hid (hb3 w.heap.size w (Nat.le_refl _) hA.out.2.1.drew)
      have hk0 : 0 < k := by
        rcases Nat.eq_zero_or_pos k with h | h
        · have := hA.out.2.2 h; omega
        · exact h
      have hm1 : 1 ≤ m ∧ k + m ≤ n := by omega
      have HM1 := Lib.hid hm1
      have hadd : (k : Int) + (m : Int) ≤ 1000 := by omega
      clear hp3 hb3 hm hm1 hA
      go_wp2
      go_region
      go_wp2
      go_roundg g'
      case measure => omega
      case rel =>
        exact ⟨k + m, by have := HM1.out; omega, HM1.out.2, by go_num, HP3.out, HB3.out, fun e => by omega⟩
    · have hz : ¬ (k : Int) < (n : Int) := by omega
      have hkn' : k = n := by omega
      subst hkn'
      go_wp2
      go_ret
      exact ⟨_, rfl, hA.out.1.own hA.out.2.1 (Nat.le_refl _) hn⟩

set_option maxHeartbeats 1000000 in
set_option maxRecDepth 100000 in
theorem blanks_any (n : Nat) (hn : n ≤ 1000) (b : Int) (w : World) :
    Calls Tryd.prog 39 #[.int .i64 (n : Int), .int .i64 b] w fun e w' => ∃ g, e = .returned (.slice (some ⟨g, 0, none⟩) n n) ∧ Own w w' (.slice (some ⟨g, 0, none⟩) n n) (List.replicate n (Cr.blank b)) := by
  have CR := Lib.hid (fun W => repeat_any (Cr.blank b) n hn W.heap.size 0 1 (W.alloc (.cells #[.string ⟨#[32]⟩, .int .i64 1, .int .i64 (-1), .int .i64 b, .int .i64 0] 48)) (Own.laid W [Cr.blank b] _ 1 rfl (by decide) rfl).rd.1)
  go_enter Tryd.func39, Tryd.ntmps39
  go_wp2_with fail
  refine (blank_any b _).mono ?_
  rintro e w1 ⟨rfl, b1⟩
  go_wp2_with fail
  refine (CR.out w1).mono ?_
  rintro e w2 ⟨g, rfl, hO⟩
  have HO := Lib.hid (hO.rebase (b1.alloc b1.size _))
  clear hO CR
  go_wp2
  go_ret
  exact ⟨g, rfl, HO.out⟩

end Go.Proofs.YtcljmmadimldlaaDoor
