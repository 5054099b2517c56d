/-
  The statement on the default value of a parameter returns true, for all arguments.
-/
import Derived.Test.YteenhgnmoakgfaaDoorAwake
namespace Go.Proofs.YteenhgnmoakgfaaDoor
open Go.RowKit Go.Shelf

set_option maxHeartbeats 1000000 in
set_option maxRecDepth 100000 in
theorem defaults_walk (A : Option Addr) (n c : Nat) (ps : List Int) (i v : Int) (w : World) (hX : Nums w w.heap.size A n ps) (_hnil : A = none → n = 0 ∧ c = 0) (hn : n ≤ 9223372036854775807) (_hr : ∀ z ∈ ps, -9223372036854775808 ≤ z ∧ z ≤ 9223372036854775807) (i0 : -9223372036854775808 ≤ i) (i1 : i ≤ 9223372036854775807) (_v0 : -9223372036854775808 ≤ v) (_v1 : v ≤ 9223372036854775807) (hP : Pw w) :
    Calls Tryd.prog 9 #[.slice A n c, .int .i64 i, .int .i64 v] w fun e w' => e = .returned (.bool true) ∧ Below w.heap.size w w' := by
  have cA := Lib.hid (awake_true w hP)
  by_cases hbig : 40 < n
  · have hbz : (40 : Int) < (n : Int) := by omega
    clear hX
    go_enter Tryd.func9, Tryd.ntmps9
    go_wp2_with fail
    refine cA.out.mono ?_
    rintro e w1 ⟨rfl, hb⟩
    go_wp2
    go_ret
    exact ⟨rfl, hb⟩
  · have hbz : ¬ (40 : Int) < (n : Int) := by omega
    have c1 := at_any A n c w.heap.size ps i v w hX
    unfold atP at c1
    rw [hX.1] at c1
    by_cases h0 : 0 ≤ i
    · by_cases h1 : i < (n : Int)
      · obtain ⟨k, rfl⟩ : ∃ k : Nat, i = k := ⟨i.toNat, by omega⟩
        obtain ⟨b, off, rfl, _, hc⟩ := hX.2 k (by omega)
        have e : ((k : Int)).toNat = k := by simp
        rw [e] at c1
        generalize ps.getD k 0 = z at hc c1
        by_cases h2 : 0 < z
        · rw [if_pos ⟨h0, h1, h2⟩] at c1
          have C1 := Lib.hid c1
          clear hX e c1
          go_enter Tryd.func9, Tryd.ntmps9
          go_wp2_with fail
          refine C1.out.mono ?_
          rintro e w1 ⟨rfl, rfl⟩
          go_wp2_with fail
          refine cA.out.mono ?_
          rintro e w1 ⟨rfl, hb⟩
          go_wp2
          go_ret
          exact ⟨rfl, hb⟩
        · rw [if_neg (fun h => h2 h.2.2)] at c1
          have C1 := Lib.hid c1
          clear hX e c1
          go_enter Tryd.func9, Tryd.ntmps9
          go_wp2_with fail
          refine C1.out.mono ?_
          rintro e w1 ⟨rfl, rfl⟩
          go_wp2_with fail
          refine cA.out.mono ?_
          rintro e w1 ⟨rfl, hb⟩
          go_wp2
          go_ret
          exact ⟨rfl, hb⟩
      · rw [if_neg (fun h => h1 h.2.1)] at c1
        have C1 := Lib.hid c1
        clear hX c1
        go_enter Tryd.func9, Tryd.ntmps9
        go_wp2_with fail
        refine C1.out.mono ?_
        rintro e w1 ⟨rfl, rfl⟩
        go_wp2_with fail
        refine cA.out.mono ?_
        rintro e w1 ⟨rfl, hb⟩
        go_wp2
        go_ret
        exact ⟨rfl, hb⟩
    · rw [if_neg (fun h => h0 h.1)] at c1
      have C1 := Lib.hid c1
      clear hX c1
      go_enter Tryd.func9, Tryd.ntmps9
      go_wp2_with fail
      refine C1.out.mono ?_
      rintro e w1 ⟨rfl, rfl⟩
      go_wp2_with fail
      refine cA.out.mono ?_
      rintro e w1 ⟨rfl, hb⟩
      go_wp2
      go_ret
      exact ⟨rfl, hb⟩

end Go.Proofs.YteenhgnmoakgfaaDoor
