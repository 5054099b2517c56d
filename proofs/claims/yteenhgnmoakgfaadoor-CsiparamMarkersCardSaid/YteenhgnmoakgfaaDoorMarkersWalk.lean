/-
  The statement on a private marker in front and an intermediate byte at the end returns true, for all arguments.
-/
import Derived.Test.YteenhgnmoakgfaaDoorSyntaxWalk
import Derived.Test.YteenhgnmoakgfaaDoorDigits
import Derived.Deep.DeepFit
import Derived.Deep.DeepMust
import Derived.Deep.DeepCutAuto
namespace Go.Proofs.YteenhgnmoakgfaaDoor
open Go.RowKit Go.Shelf

set_option maxHeartbeats 1000000 in
set_option maxRecDepth 100000 in
theorem markers_walk (s : ByteArray) (x y : Int) (w : World) (hs : s.size ≤ 140737488351232) (x0 : 0 ≤ x) (x1 : x ≤ 255) (y0 : 0 ≤ y) (y1 : y ≤ 255) (hP : Pw w) :
    Calls Tryd.prog 8 #[.string s, .int .u8 x, .int .u8 y] w fun e w' => e = .returned (.bool true) ∧ Below w.heap.size w w' := by
  obtain ⟨q, hq⟩ : ∃ q, (decide (200 < s.size) || !s.data.toList.all Cp.isPar) = q := ⟨_, rfl⟩
  have HQ := Lib.hid hq
  clear hq
  go_enter Tryd.func8, Tryd.ntmps8
  go_upto_region 1 with fail
  go_cut [28] (fun t wx => t = .bool q ∧ Below w.heap.size w wx)
  case first =>
    have hq := HQ.out
    by_cases hbig : 200 < s.size
    · have hbz : (200 : Int) < (s.size : Int) := by omega
      rw [decide_eq_true hbig] at hq
      obtain rfl : q = true := by rw [← hq]; rfl
      clear hq
      go_wp2
      go_meet
      exact ⟨rfl, Below.refl _ _⟩
    · have hbz : ¬ (200 : Int) < (s.size : Int) := by omega
      rw [decide_eq_false hbig, Bool.false_or] at hq
      cases hem : s.toList.isEmpty
      · have c1 := Lib.hid (digits_any s w (by omega) hem)
        have C2 : Hid (s.data.toList.all Cp.isPar = !q) := Lib.hid (by rw [← hq, Bool.not_not])
        clear hq
        go_wp2_with fail
        refine c1.out.mono ?_
        rintro e w1 ⟨rfl, b1⟩
        rw [C2.out]
        go_wp2
        go_meet
        exact ⟨by simp, b1⟩
      · have hl : s.data.toList = [] := by
          rw [empty_iff] at hem
          simpa using hem
        rw [hl] at hq
        obtain rfl : q = false := by rw [← hq]; rfl
        clear hq hl
        go_wp2
        go_meet
        exact ⟨rfl, Below.refl _ _⟩
  case rest =>
    obtain ⟨rfl, b1⟩ := hcut
    have P1 := hP.below b1
    cases q
    · have hq := HQ.out
      rw [Bool.or_eq_false_iff] at hq
      have hz : s.size ≤ 200 := by have := hq.1; simp at this; omega
      have hall : s.data.toList.all Cp.isPar = true := by have := hq.2; simpa using this
      have hp1 := Cp.parse_par _ hall
      have HM := Lib.hid (fun c i hc hi => Cp.parse_marked c i _ hc hi hall)
      have hvl : (Cp.vals s.data.toList).length ≤ 1000 := by
        unfold Cp.vals
        split
        · simp
        · have := Cp.vs_len (-1) s.data.toList
          have := Lib.size_eq s
          omega
      have HL : Hid (s.data.toList.length = s.size) := Lib.hid (Lib.size_eq s).symm
      obtain ⟨V, hV⟩ : ∃ V, Cp.vals s.data.toList = V := ⟨_, rfl⟩
      rw [hV] at hp1 hvl
      have HV := Lib.hid hV
      clear hq hall hV HQ
      obtain ⟨ps, er, hps⟩ : ∃ ps er, Cp.parse s.data.toList = (0, ps, [], er) ∧ (if Cp.over V [] then ps = [] ∧ er = 5 else ps = V ∧ er = 0) := by
        rw [hp1]
        cases Cp.over V []
        · exact ⟨V, 0, rfl, rfl, rfl⟩
        · exact ⟨[], 5, rfl, rfl, rfl⟩
      have c1 := Lib.hid (parse_any s wc (by omega) hps.1)
      have HO := Lib.hid hps.2
      clear hp1 hps
      go_wp2_with fail
      refine c1.out.mono ?_
      rintro e w2 ⟨A2, n2, k2, t2, rfl, ht2, g2⟩
      have b2 := b1.trans (g2.2.2.mono b1.size)
      have P2 := P1.below g2.2.2
      have G2 := Lib.hid g2.1
      clear c1 ht2 g2 b1 P1
      go_upto_region 4 with fail
      go_cut [11] (fun t wx => (∃ c : UInt8, Cp.isMk c = true ∧ t = .int .u8 (c.toNat : Int)) ∧ w2 = wx)
      case first =>
        have h4 : x % 4 = 0 ∨ x % 4 = 1 ∨ x % 4 = 2 ∨ x % 4 = 3 := by omega
        rcases h4 with h4 | h4 | h4 | h4
        · go_wp2
          go_meet
          exact ⟨⟨60, by decide, rfl⟩, rfl⟩
        · go_wp2
          go_meet
          exact ⟨⟨61, by decide, rfl⟩, rfl⟩
        · go_wp2
          go_meet
          exact ⟨⟨62, by decide, rfl⟩, rfl⟩
        · go_wp2
          go_meet
          exact ⟨⟨63, by decide, rfl⟩, rfl⟩
      case rest =>
        obtain ⟨⟨c, hc, rfl⟩, rfl⟩ := hcut
        have hy0 : 0 ≤ y % 16 := by omega
        have hy1 : y % 16 ≤ 15 := by omega
        obtain ⟨d, hd⟩ := byte_of (32 + y % 16) (by omega) (by omega)
        have hdm : Cp.isMid d = true := by unfold Cp.isMid; simp; omega
        have hcv := u8_string w2 (32 + y % 16) d hd
        have HD := Lib.hid hd
        clear hd
        go_upto_region 6 with fail
        obtain ⟨w3, hw3⟩ : ∃ w3, w2.alloc (.cells #[.int .u8 (32 + y % 16)] 5) = w3 := ⟨_, rfl⟩
        have b3 : Below w2.heap.size w2 w3 := by rw [← hw3]; exact (Below.refl _ w2).alloc (Nat.le_refl _) _
        have P3 := P2.below b3
        have b4 := b2.trans (b3.mono b2.size)
        have G3 := Lib.hid ((G2.out.below b3 (Nat.le_refl _)).more b3.size)
        rw [hw3]
        clear hcv hw3 b3 P2 b2 G2
        have hcv := u8_string w3 (c.toNat : Int) c rfl
        obtain ⟨s2, hs2⟩ : ∃ s2 : ByteArray, (⟨#[c]⟩ : ByteArray) ++ s ++ ⟨#[d]⟩ = s2 := ⟨_, rfl⟩
        have hd2 : s2.data.toList = c :: s.data.toList ++ [d] := by
          rw [← hs2]
          simp only [app_bytes]
          simp
        have hz2 : s2.size ≤ 500 := by
          rw [Lib.size_eq, hd2]
          have := HL.out
          simp only [List.length_append, List.length_cons, List.length_nil]
          omega
        have hp2 := HM.out c d hc hdm
        rw [← hd2, HV.out] at hp2
        have o1 : ¬ 9223372036854775807 < 1 + s.size := by omega
        have o2 : ¬ 9223372036854775807 < 1 + s.size + 1 := by omega
        have bA : Below w.heap.size w (w3.alloc (.cells #[.int .u8 (c.toNat : Int)] 5)) := b4.alloc b4.size _
        have bB : Below w3.heap.size w3 (w3.alloc (.cells #[.int .u8 (c.toNat : Int)] 5)) := (Below.refl _ w3).alloc (Nat.le_refl _) _
        have BA := Lib.hid bA
        have BB := Lib.hid bB
        clear bA bB hd2
        cases hov : Cp.over V []
        · rw [hov] at hp2
          have hp3 : Cp.parse s2.data.toList = (c, V, [d], 0) := hp2
          have ho := HO.out
          rw [hov] at ho
          obtain ⟨rfl, rfl⟩ : ps = V ∧ er = 0 := ho
          have c2 := Lib.hid (fun W => parse_any s2 W hz2 hp3)
          clear hp2 hp3 hov HO
          go_wp2_with fail
          refine (c2.out _).mono ?_
          rintro e w4 ⟨A4, n4, k4, t4, rfl, ht4, g4⟩
          obtain rfl : t4 = ⟨#[d]⟩ := ext_bytes ht4
          have P4 := (P3.below BB.out).below g4.2.2
          have B4 := Lib.hid (BA.out.trans (g4.2.2.mono BA.out.size))
          have G4 := Lib.hid g4.1
          have G3' := Lib.hid ((G3.out.below BB.out (Nat.le_refl _)).below g4.2.2 BB.out.size)
          have c3 := Lib.hid (same_yes A2 A4 n2 n4 k2 k4 _ _ _ w4 (by omega) G3'.out G4.out)
          clear ht4 g4 c2 hcv hs2 o1 o2 BA BB P3
          go_wp2_with fail
          refine c3.out.mono ?_
          rintro e w5 ⟨rfl, b5⟩
          have cA := Lib.hid (awake_true w5 (P4.below b5))
          have b6 := B4.out.trans (b5.mono B4.out.size)
          go_wp2_with fail
          refine cA.out.mono ?_
          rintro e w6 ⟨rfl, b7⟩
          go_wp2
          go_ret
          exact ⟨rfl, b6.trans (b7.mono b6.size)⟩
        · rw [hov] at hp2
          have hp3 : Cp.parse s2.data.toList = (0, [], [], 5) := hp2
          have ho := HO.out
          rw [hov] at ho
          obtain ⟨rfl, rfl⟩ : ps = [] ∧ er = 5 := ho
          have c2 := Lib.hid (fun W => parse_any s2 W hz2 hp3)
          clear hp2 hp3 hov HO
          go_wp2_with fail
          refine (c2.out _).mono ?_
          rintro e w4 ⟨A4, n4, k4, t4, rfl, ht4, g4⟩
          have P4 := (P3.below BB.out).below g4.2.2
          have B4 := Lib.hid (BA.out.trans (g4.2.2.mono BA.out.size))
          clear ht4 g4 c2 hcv hs2 o1 o2 BA BB P3
          have cA := Lib.hid (awake_true w4 P4)
          go_wp2_with fail
          refine cA.out.mono ?_
          rintro e w6 ⟨rfl, b7⟩
          go_wp2
          go_ret
          exact ⟨rfl, B4.out.trans (b7.mono B4.out.size)⟩
    · have cA := Lib.hid (awake_true wc P1)
      clear HQ
      go_wp2_with fail
      refine cA.out.mono ?_
      rintro e w2 ⟨rfl, b2⟩
      go_wp2
      go_ret
      exact ⟨rfl, b1.trans (b2.mono b1.size)⟩

end Go.Proofs.YteenhgnmoakgfaaDoor
