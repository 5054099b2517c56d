/-
  What the document's own search, Mark, Width and Total return, for every number and list.
-/
import Derived.Test.YtjoaaehfplcanaaDoorTabs
namespace Go.Proofs.YtjoaaehfplcanaaDoor
open Go.RowKit

set_option maxHeartbeats 1000000 in
set_option maxRecDepth 100000 in
theorem refIn_any (g n c : Nat) (r : Int) (ps : List (Int × Int)) (w : World) (hn : ps.length = n) (hbig : n ≤ 1000) (hT : Tab w g ps) :
    Calls Tryd.prog 48 #[.slice (some ⟨g, 0, none⟩) n c, .int .i32 r] w fun e w' => e = .returned (.bool (Cw.hits ps r)) ∧ w = w' := by
  go_enter Tryd.func48, Tryd.ntmps48
  go_wp2
  go_loopg [5] n (fun gg s5 wr => ∃ k : Nat, k ≤ n ∧ n - k ≤ gg ∧ s5 = .int .i64 k ∧ wr = w ∧ Aside (∀ j, j < k → Cw.hit (ps.getD j (0, 0)) r = false))
  case atStart => exact ⟨0, Nat.zero_le _, by omega, rfl, rfl, fun j hj => absurd hj (Nat.not_lt_zero _)⟩
  case round =>
    obtain ⟨k, hk, hg, rfl, rfl, A⟩ := hrel
    by_cases hkn : k < n
    · have hz : (k : Int) < (n : Int) := by omega
      have hz0 : (0 : Int) ≤ (k : Int) := by omega
      obtain ⟨c1, c2⟩ := hT.2 k (by omega)
      have HT := Lib.hid hT
      clear hT
      obtain ⟨y, hy⟩ : ∃ y, ps.getD k (0, 0) = y := ⟨_, rfl⟩
      rw [hy] at c1 c2
      have HY := Lib.hid hy
      clear hy
      obtain ⟨a, b⟩ := y
      by_cases h1 : a ≤ r
      · by_cases h2 : r ≤ b
        · go_wp2
          go_ret
          refine ⟨ret_bool ?_, rfl⟩
          rw [Cw.hits_of k (by omega) (by rw [HY.out]; simp [Cw.hit, h1, h2])]
        · go_wp2
          go_roundg (n - (k + 1))
          case measure => omega
          case rel =>
            refine ⟨k + 1, by omega, by omega, by go_num, rfl, (show Aside _ from fun j hj => ?_)⟩
            by_cases e : j = k
            · subst e
              rw [HY.out]
              simp [Cw.hit]
              omega
            · exact A.out j (by omega)
      · go_wp2
        go_roundg (n - (k + 1))
        case measure => omega
        case rel =>
          refine ⟨k + 1, by omega, by omega, by go_num, rfl, (show Aside _ from fun j hj => ?_)⟩
          by_cases e : j = k
          · subst e
            rw [HY.out]
            simp [Cw.hit]
            omega
          · exact A.out j (by omega)
    · have hz : ¬ (k : Int) < (n : Int) := by omega
      have HT := Lib.hid hT
      clear hT
      go_wp2
      go_ret
      refine ⟨ret_bool ?_, rfl⟩
      rw [Cw.hits_none (fun j hj => A.out j (by omega))]

set_option maxHeartbeats 400000 in
set_option maxRecDepth 100000 in
theorem refMark_any (r : Int) (w : World) : Calls Tryd.prog 34 #[.int .i32 r] w fun e w' => e = .returned (.bool (Cw.hits Cw.marks r)) ∧ Below w.heap.size w w' := by
  have htab := table_of (refMarks_any w)
  have hlen : Cw.marks.length = 7 := rfl
  have HL := Lib.hid hlen
  clear hlen
  generalize Cw.marks = ps at htab HL ⊢
  go_enter Tryd.func34, Tryd.ntmps34
  go_wp2_with fail
  refine htab.mono ?_
  rintro e w1 ⟨rfl, hT, hb⟩
  have hcall := refIn_any w.heap.size 7 7 r ps w1 HL.out (by decide) hT
  clear hT htab
  go_wp2_with fail
  refine hcall.mono ?_
  rintro e w2 ⟨rfl, rfl⟩
  go_wp2
  go_ret
  exact ⟨rfl, hb⟩

set_option maxHeartbeats 1000000 in
set_option maxRecDepth 100000 in
theorem refWidth_any (r : Int) (w : World) : Calls Tryd.prog 36 #[.int .i32 r] w fun e w' => e = .returned (.int .i64 (Cw.wd r)) ∧ Below w.heap.size w w' := by
  have hmark := refMark_any r w
  have hwide := fun w' : World => table_of (refWide_any w')
  have hlen : Cw.wide.length = 14 := rfl
  have HL := Lib.hid hlen
  clear hlen
  obtain ⟨z, hz⟩ : ∃ z, Cw.wd r = z := ⟨_, rfl⟩
  rw [hz]
  unfold Cw.wd at hz
  have HW := Lib.hid hz
  clear hz
  generalize Cw.marks = ms at hmark HW
  generalize Cw.wide = ps at hwide HL HW
  cases h1 : Cw.ctl r
  · have hn : ¬ (r < 32 ∨ (127 ≤ r ∧ r ≤ 159)) := by rw [← Cw.ctl_iff, h1]; simp
    rw [h1] at HW
    cases h2 : Cw.hits ms r
    · rw [h2] at hmark HW
      cases h3 : Cw.hits ps r
      all_goals
        rw [h3] at HW
        clear h1 h2
        have a1 : ¬ r < 32 := by omega
        by_cases a2 : 127 ≤ r
        all_goals
          have a3 : 127 ≤ r → ¬ r ≤ 159 := by omega
          try have a4 := a3 a2
          clear hn a3
          go_enter Tryd.func36, Tryd.ntmps36
          go_wp2_with fail
          refine hmark.mono ?_
          rintro e w1 ⟨rfl, hb1⟩
          go_wp2_with fail
          refine (hwide w1).mono ?_
          rintro e w2 ⟨rfl, hT, hb2⟩
          have hcall := refIn_any w1.heap.size 14 14 r ps w2 HL.out (by decide) hT
          rw [h3] at hcall
          clear hT
          go_wp2_with fail
          refine hcall.mono ?_
          rintro e w3 ⟨rfl, rfl⟩
          go_wp2
          go_ret
          exact ⟨ret_int (by have := HW.out; simpa using this), hb1.trans (hb2.mono hb1.size)⟩
    · rw [h2] at hmark HW
      clear h1 h2 hwide
      have a1 : ¬ r < 32 := by omega
      by_cases a2 : 127 ≤ r
      all_goals
        have a3 : 127 ≤ r → ¬ r ≤ 159 := by omega
        try have a4 := a3 a2
        clear hn a3
        go_enter Tryd.func36, Tryd.ntmps36
        go_wp2_with fail
        refine hmark.mono ?_
        rintro e w1 ⟨rfl, hb1⟩
        go_wp2
        go_ret
        exact ⟨ret_int (by have := HW.out; simpa using this), hb1⟩
  · have hn := (Cw.ctl_iff r).1 h1
    rw [h1] at HW
    clear h1 hmark hwide
    by_cases a1 : r < 32
    · clear hn
      go_enter Tryd.func36, Tryd.ntmps36
      go_wp2
      go_ret
      exact ⟨ret_int (by have := HW.out; simpa using this), Below.refl _ _⟩
    · have a2 : 127 ≤ r := by omega
      have a3 : r ≤ 159 := by omega
      clear hn
      go_enter Tryd.func36, Tryd.ntmps36
      go_wp2
      go_ret
      exact ⟨ret_int (by have := HW.out; simpa using this), Below.refl _ _⟩

end Go.Proofs.YtjoaaehfplcanaaDoor
