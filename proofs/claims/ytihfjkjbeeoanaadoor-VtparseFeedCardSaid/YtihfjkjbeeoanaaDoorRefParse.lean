/-
  What the document's own Parse returns, for every string of at most 500 bytes.
-/
import Derived.Test.YtihfjkjbeeoanaaDoorParse
import Derived.Deep.DeepFit
import Derived.Deep.DeepMust
import Derived.Deep.DeepCutAuto
namespace Go.Proofs.YtihfjkjbeeoanaaDoor.Ci
open Go.RowKit Go.Shelf

set_option maxRecDepth 100000 in
theorem refmarker_any (b : UInt8) (w : World) : Calls Tryd.prog 42 #[.int .u8 (b.toNat : Int)] w fun e w' => e = .returned (.bool (Cp.isMk b)) ∧ w = w' := by
  obtain ⟨R, hR⟩ : ∃ R, Cp.isMk b = R := ⟨_, rfl⟩
  rw [hR]
  unfold Cp.isMk at hR
  by_cases h1 : 60 ≤ b.toNat
  · have h1z : (60 : Int) ≤ (b.toNat : Int) := by omega
    rw [decide_eq_true h1, Bool.true_and] at hR
    subst hR
    have e : decide ((b.toNat : Int) ≤ 63) = decide (b.toNat ≤ 63) := by
      by_cases h : b.toNat ≤ 63
      · rw [decide_eq_true h, decide_eq_true (by omega)]
      · rw [decide_eq_false h, decide_eq_false (by omega)]
    have HE := Lib.hid e
    clear e
    go_enter Tryd.func42, Tryd.ntmps42
    go_wp2
    go_ret
    exact ⟨ret_bool HE.out, rfl⟩
  · have h1z : ¬ (60 : Int) ≤ (b.toNat : Int) := by omega
    rw [decide_eq_false h1, Bool.false_and] at hR
    subst hR
    go_enter Tryd.func42, Tryd.ntmps42
    go_wp2
    go_ret
    exact ⟨rfl, rfl⟩

set_option maxRecDepth 100000 in
theorem refmiddle_any (b : UInt8) (w : World) : Calls Tryd.prog 43 #[.int .u8 (b.toNat : Int)] w fun e w' => e = .returned (.bool (Cp.isMid b)) ∧ w = w' := by
  obtain ⟨R, hR⟩ : ∃ R, Cp.isMid b = R := ⟨_, rfl⟩
  rw [hR]
  unfold Cp.isMid at hR
  by_cases h1 : 32 ≤ b.toNat
  · have h1z : (32 : Int) ≤ (b.toNat : Int) := by omega
    rw [decide_eq_true h1, Bool.true_and] at hR
    subst hR
    have e : decide ((b.toNat : Int) ≤ 47) = decide (b.toNat ≤ 47) := by
      by_cases h : b.toNat ≤ 47
      · rw [decide_eq_true h, decide_eq_true (by omega)]
      · rw [decide_eq_false h, decide_eq_false (by omega)]
    have HE := Lib.hid e
    clear e
    go_enter Tryd.func43, Tryd.ntmps43
    go_wp2
    go_ret
    exact ⟨ret_bool HE.out, rfl⟩
  · have h1z : ¬ (32 : Int) ≤ (b.toNat : Int) := by omega
    rw [decide_eq_false h1, Bool.false_and] at hR
    subst hR
    go_enter Tryd.func43, Tryd.ntmps43
    go_wp2
    go_ret
    exact ⟨rfl, rfl⟩

/-- What the last number of a row that a call makes is, and where; and the row behind a store to it. -/
theorem Out.last {w0 w : World} {v : Value} {ls : List Int} {x : Int} (h : Out w0 w v (ls ++ [x])) :
    ∃ k cap, v = .slice (some ⟨k, 0, none⟩) (ls.length + 1) cap ∧ w0.heap.size ≤ k ∧ k < w.heap.size ∧ w.cell? ⟨k, ls.length, none⟩ = some (.int .i64 x) ∧ w.frozen? ⟨k, ls.length, none⟩ = false ∧
      ∀ y : Int, Out w0 (w.setCell ⟨k, ls.length, none⟩ (.int .i64 y)) v (ls ++ [y]) := by
  have hn : (ls ++ [x]).length = ls.length + 1 := by simp
  rcases h.1.2 with ⟨_, e0⟩ | ⟨k, cap, cur, e, hk, hg, _⟩
  · rw [hn] at e0; omega
  · rw [hn] at e
    have hown := h.1
    rw [e, hn] at hown
    have hlt : k < w.heap.size := by
      rcases Nat.lt_or_ge k w.heap.size with h' | h'
      · exact h'
      · rw [Array.getElem?_eq_none h'] at hg; cases hg
    refine ⟨k, cap, e, hk, hlt, ?_, hown.frozenAt _, fun y => ?_⟩
    · rw [hown.cellAt ls.length (by omega)]
      simp
    · have hs := hown.stored ls.length (.int .i64 y)
      refine ⟨?_, h.2.setCell (by show w0.heap.size ≤ k; exact hk) _⟩
      have e2 : ((ls ++ [x]).map (Value.int .i64)).set ls.length (.int .i64 y) = (ls ++ [y]).map (Value.int .i64) := by
        simp
      have e3 : (ls ++ [y]).length = ls.length + 1 := by simp
      rw [e, e3, ← e2]
      exact hs.1

/-- The document's own list and mark beside the plain mathematics' state. -/
def Beside (st : List Int × Int) (ls : List Int) (x : Int) (bg : Bool) : Prop :=
  bg = (st.1 ++ [st.2]).any (fun z => decide (9999 < z)) ∧ (bg = false → ls ++ [x] = st.1 ++ [st.2]) ∧ ls.length = st.1.length ∧ -1 ≤ x ∧ x ≤ 9999
theorem beside_start : Beside ([], -1) [] (-1) false := ⟨rfl, fun _ => rfl, rfl, by omega, by omega⟩
theorem beside_sep {st : List Int × Int} {ls : List Int} {x : Int} {bg : Bool} (h : Beside st ls x bg) : Beside (st.1 ++ [st.2], -1) (ls ++ [x]) (-1) bg := by
  obtain ⟨h1, h2, h3, h4, h5⟩ := h
  refine ⟨?_, fun e => by rw [h2 e], by simp [h3], by omega, by omega⟩
  rw [h1]
  simp
theorem beside_digit {st : List Int × Int} {ls : List Int} {x : Int} {bg : Bool} (h : Beside st ls x bg) (b : UInt8) (hb : 48 ≤ b.toNat ∧ b.toNat ≤ 57) (n : Int) (hn : n = 10 * (if x < 0 then 0 else x) + ((b.toNat : Int) - 48)) :
    (9999 < n → Beside (st.1, Cp.dg st.2 b) ls 9999 true) ∧ (¬ 9999 < n → Beside (st.1, Cp.dg st.2 b) ls n bg) := by
  obtain ⟨h1, h2, h3, h4, h5⟩ := h
  have hx : bg = false → x = st.2 := fun e => by
    have e2 := h2 e
    have := List.append_inj e2 h3
    simpa using this.2
  have hl : bg = false → ls = st.1 := fun e => (List.append_inj (h2 e) h3).1
  have hany : ∀ v : Int, (st.1 ++ [v]).any (fun z => decide (9999 < z)) = (st.1.any (fun z => decide (9999 < z)) || decide (9999 < v)) := fun v => by simp
  have hmono : 9999 < st.2 → 9999 < Cp.dg st.2 b := fun h => by unfold Cp.dg; omega
  have hn0 : 0 ≤ n := by split at hn <;> omega
  refine ⟨fun hb9 => ⟨?_, fun e => (by cases e), h3, by omega, by omega⟩, fun hb9 => ⟨?_, fun e => ?_, h3, by omega, by omega⟩⟩
  · rw [hany]
    rw [hany] at h1
    cases bg
    · have e := hx rfl
      have : 9999 < Cp.dg st.2 b := by
        unfold Cp.dg
        rw [← e]
        split at hn <;> omega
      simp [this]
    · symm at h1
      rw [Bool.or_eq_true] at h1
      rcases h1 with h1 | h1
      · rw [h1]; rfl
      · have := hmono (by simpa using h1)
        simp [this]
  · rw [hany]
    rw [hany] at h1
    cases bg
    · have e := hx rfl
      symm at h1
      rw [Bool.or_eq_false_iff] at h1
      have : ¬ 9999 < Cp.dg st.2 b := by
        unfold Cp.dg
        rw [← e]
        split at hn <;> omega
      rw [h1.1]
      simp [this]
    · symm at h1
      rw [Bool.or_eq_true] at h1
      rcases h1 with h1 | h1
      · rw [h1]; rfl
      · have := hmono (by simpa using h1)
        simp [this]
  · have e1 := hx e
    have e2 := hl e
    rw [e2]
    have : n = Cp.dg st.2 b := by
      unfold Cp.dg
      rw [← e1]
      split at hn <;> omega
    rw [this]

end Go.Proofs.YtihfjkjbeeoanaaDoor.Ci
