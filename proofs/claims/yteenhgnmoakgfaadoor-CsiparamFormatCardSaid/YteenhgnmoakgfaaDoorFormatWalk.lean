/-
  The statement that Format and At return the results of the document's own functions returns true, for all arguments.
-/
import Derived.Test.YteenhgnmoakgfaaDoorRefFormat
namespace Go.Proofs.YteenhgnmoakgfaaDoor
open Go.RowKit Go.Shelf

set_option maxHeartbeats 1000000 in
set_option maxRecDepth 100000 in
theorem refat_any (A : Option Addr) (n c B : Nat) (ps : List Int) (i v : Int) (w : World) (hX : Nums w B A n ps) :
    Calls Tryd.prog 19 #[.slice A n c, .int .i64 i, .int .i64 v] w fun e w' => e = .returned (.int .i64 (atP ps i v)) ∧ w = w' := by
  obtain ⟨R, hR⟩ : ∃ R, atP ps i v = R := ⟨_, rfl⟩
  rw [hR]
  unfold atP at hR
  rw [hX.1] at hR
  by_cases h0 : 0 ≤ i
  · have h0n : ¬ i < 0 := by omega
    by_cases h1 : i < (n : Int)
    · obtain ⟨k, rfl⟩ : ∃ k : Nat, i = k := ⟨i.toNat, by omega⟩
      obtain ⟨b, off, rfl, _, hc⟩ := hX.2 k (by omega)
      have e : ((k : Int)).toNat = k := by simp
      have h1n : ¬ (n : Int) ≤ (k : Int) := by omega
      rw [e] at hR
      generalize ps.getD k 0 = z at hc hR
      by_cases h2 : 0 < z
      · rw [if_pos ⟨h0, h1, h2⟩] at hR
        have h2n : ¬ z ≤ 0 := by omega
        subst hR
        clear hX e
        go_enter Tryd.func19, Tryd.ntmps19
        go_wp2
        go_ret
        exact ⟨rfl, rfl⟩
      · rw [if_neg (fun h => h2 h.2.2)] at hR
        have h2n : z ≤ 0 := by omega
        subst hR
        clear hX e
        go_enter Tryd.func19, Tryd.ntmps19
        go_wp2
        go_ret
        exact ⟨rfl, rfl⟩
    · rw [if_neg (fun h => h1 h.2.1)] at hR
      have h1n : (n : Int) ≤ i := by omega
      subst hR
      clear hX
      go_enter Tryd.func19, Tryd.ntmps19
      go_wp2
      go_ret
      exact ⟨rfl, rfl⟩
  · rw [if_neg (fun h => h0 h.1)] at hR
    have h0n : i < 0 := by omega
    subst hR
    clear hX
    go_enter Tryd.func19, Tryd.ntmps19
    go_wp2
    go_ret
    exact ⟨rfl, rfl⟩

set_option maxHeartbeats 1000000 in
set_option maxRecDepth 100000 in
theorem format_walk (x : Int) (A : Option Addr) (n c : Nat) (ps : List Int) (i : ByteArray) (w : World) (x0 : 0 ≤ x) (x1 : x ≤ 255) (hX : Nums w w.heap.size A n ps) (_hnil : A = none → n = 0 ∧ c = 0) (hn : n ≤ 9223372036854775807) (hr : ∀ z ∈ ps, -9223372036854775808 ≤ z ∧ z ≤ 9223372036854775807) (hi : i.size ≤ 140737488351232) (hP : Pw w) :
    Calls Tryd.prog 4 #[.int .u8 x, .slice A n c, .string i] w fun e w' => e = .returned (.bool true) ∧ Below w.heap.size w w' := by
  by_cases hbig : 40 < n
  · have hbz : (40 : Int) < (n : Int) := by omega
    have cA := Lib.hid (awake_true w hP)
    clear hr hX
    go_enter Tryd.func4, Tryd.ntmps4
    go_wp2_with fail
    refine cA.out.mono ?_
    rintro e w1 ⟨rfl, hb⟩
    go_wp2
    go_ret
    exact ⟨rfl, hb⟩
  · have hbz : ¬ (40 : Int) < (n : Int) := by omega
    by_cases hbi : 20 < i.size
    · have hbiz : (20 : Int) < (i.size : Int) := by omega
      have cA := Lib.hid (awake_true w hP)
      clear hr hX
      go_enter Tryd.func4, Tryd.ntmps4
      go_wp2_with fail
      refine cA.out.mono ?_
      rintro e w1 ⟨rfl, hb⟩
      go_wp2
      go_ret
      exact ⟨rfl, hb⟩
    · have hbiz : ¬ (20 : Int) < (i.size : Int) := by omega
      obtain ⟨p, rfl⟩ := byte_of x x0 x1
      obtain ⟨l, er, hf⟩ : ∃ l er, Cp.fmt p ps i.data.toList = (l, er) := ⟨_, _, rfl⟩
      have c1 := Lib.hid (format_any p A n c w.heap.size ps i w (Nat.le_refl _) hX (by omega) (by omega) hP hr hf)
      have HX := Lib.hid hX
      have HR := Lib.hid hr
      have HF := Lib.hid hf
      clear hr hX hf
      go_enter Tryd.func4, Tryd.ntmps4
      go_wp2_with fail
      refine c1.out.mono ?_
      rintro e w1 ⟨t, rfl, ht, b1⟩
      have c2 := Lib.hid (refformat_any p A n c w.heap.size ps i w1 b1.size (HX.out.below b1 (Nat.le_refl _)) (by omega) (by omega) HR.out HF.out)
      have P1 := hP.below b1
      have HT := Lib.hid ht
      clear ht c1
      go_wp2_with fail
      refine c2.out.mono ?_
      rintro e w2 ⟨u, rfl, hu, b2⟩
      obtain rfl : u = t := ext_bytes (by rw [hu, HT.out])
      have P2 := P1.below b2
      have B2 := Lib.hid (b1.trans (b2.mono b1.size))
      have X2 := Lib.hid (HX.out.below B2.out (Nat.le_refl _))
      clear hu c2 b1 b2 P1 HT HX
      go_wp2
      go_loopg [11] (n + 2) (fun gk iv wr => ∃ k : Nat, gk + k = n + 2 ∧ iv = .int .i64 ((k : Int) - 1) ∧ w2 = wr)
      case atStart => exact ⟨0, by omega, rfl, rfl⟩
      case round =>
        obtain ⟨k, hg, rfl, rfl⟩ := hrel
        have hwr : (0 : Int) ≤ (k : Int) := by omega
        have hkm : (k : Int) ≤ 50 := by omega
        by_cases hlt : k ≤ n + 1
        · obtain ⟨j, hj⟩ : ∃ j : Int, (k : Int) - 1 = j := ⟨_, rfl⟩
          rw [hj]
          have hz : j ≤ (n : Int) := by omega
          have cA1 := at_any A n c w.heap.size ps j 7 w2 X2.out
          have cA2 := refat_any A n c w.heap.size ps j 7 w2 X2.out
          generalize atP ps j 7 = y at cA1 cA2
          have hyy : (y != y) = false := by simp
          have C1 := Lib.hid cA1
          have C2 := Lib.hid cA2
          have HJ := Lib.hid hj
          have hj0 : -1 ≤ j := by omega
          have hj1 : j ≤ 50 := by omega
          clear cA1 cA2 hj
          go_wp2_with fail
          refine C1.out.mono ?_
          rintro e w3 ⟨rfl, rfl⟩
          go_wp2_with fail
          refine C2.out.mono ?_
          rintro e w3 ⟨rfl, rfl⟩
          go_wp2
          go_roundg (gk - 1)
          case measure => omega
          case rel =>
            refine ⟨k + 1, by omega, ?_, rfl⟩
            rw [← HJ.out]
            congr 1
            omega
        · have hz : ¬ (k : Int) - 1 ≤ (n : Int) := by omega
          have cA := Lib.hid (awake_true w2 P2)
          go_wp2_with fail
          refine cA.out.mono ?_
          rintro e w4 ⟨rfl, b4⟩
          go_wp2
          go_ret
          exact ⟨rfl, B2.out.trans (b4.mono B2.out.size)⟩

end Go.Proofs.YteenhgnmoakgfaaDoor
