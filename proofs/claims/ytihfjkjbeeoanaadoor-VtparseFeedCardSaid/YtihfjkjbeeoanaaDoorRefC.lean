/-
  What Same of the document's own answers returns for two events, and what all returns.
-/
import Derived.Test.YtihfjkjbeeoanaaDoorCheck
namespace Go.Proofs.YtihfjkjbeeoanaaDoor
open Go.RowKit

set_option maxHeartbeats 400000 in
set_option maxRecDepth 100000 in
/-- Same of a slice with nil. -/
theorem refsame_nil (A : Option Addr) (n c : Nat) (w : World) :
    Calls Tryd.prog 29 #[.slice A n c, .slice none 0 0] w fun e w' => e = .returned (.bool (decide (n = 0))) ∧ Below w.heap.size w w' := by
  by_cases h : n = 0
  · subst h
    go_enter Tryd.func29, Tryd.ntmps29
    go_wp2
    go_loopg [5] 1 (fun gk i wr => gk = 1 ∧ i = .int .i64 0 ∧ wr = w)
    case atStart => exact ⟨rfl, rfl, rfl⟩
    case round =>
      obtain ⟨rfl, rfl, rfl⟩ := hrel
      go_wp2
      go_ret
      exact ⟨rfl, Below.refl _ _⟩
  · have hne : ((n : Int) != 0) = true := by simpa using h
    have hd : decide (n = 0) = false := by simpa using h
    rw [hd]
    go_enter Tryd.func29, Tryd.ntmps29
    go_wp2
    go_ret
    exact ⟨rfl, Below.refl _ _⟩

set_option maxHeartbeats 2000000 in
set_option maxRecDepth 100000 in
theorem refsame_any (e f : Vt.E) (A1 A2 : Option Addr) (n1 n2 c1 c2 : Nat) (w : World)
    (hS : ∀ W, Below w.heap.size w W → Calls Tryd.prog 29 #[.slice A1 n1 c1, .slice A2 n2 c2] W fun x w' => x = .returned (.bool (decide (e.ps = f.ps))) ∧ Below W.heap.size W w') :
    Calls Tryd.prog 17 #[.agg #[.int .i64 e.k, .int .i32 e.r, .int .u8 (e.c.toNat : Int), .int .u8 (e.p.toNat : Int), .string (ba e.i), .slice A1 n1 c1, .string (ba e.t)], .agg #[.int .i64 f.k, .int .i32 f.r, .int .u8 (f.c.toNat : Int), .int .u8 (f.p.toNat : Int), .string (ba f.i), .slice A2 n2 c2, .string (ba f.t)]] w
      fun x w' => x = .returned (.bool (decide (e = f))) ∧ Below w.heap.size w w' := by
  obtain ⟨k, r, c, p, i, ps, t⟩ := e
  obtain ⟨k', r', c', p', i', ps', t'⟩ := f
  simp only at hS ⊢
  have hb := pair_low w #[.int .i64 k, .int .i32 r, .int .u8 (c.toNat : Int), .int .u8 (p.toNat : Int), .string (ba i), .slice A1 n1 c1, .string (ba t)] #[.int .i64 k', .int .i32 r', .int .u8 (c'.toNat : Int), .int .u8 (p'.toNat : Int), .string (ba i'), .slice A2 n2 c2, .string (ba t')]
  have q1 := Lib.hid (pair_1 w #[.int .i64 k, .int .i32 r, .int .u8 (c.toNat : Int), .int .u8 (p.toNat : Int), .string (ba i), .slice A1 n1 c1, .string (ba t)] #[.int .i64 k', .int .i32 r', .int .u8 (c'.toNat : Int), .int .u8 (p'.toNat : Int), .string (ba i'), .slice A2 n2 c2, .string (ba t')])
  have q2 := Lib.hid (pair_2 w #[.int .i64 k, .int .i32 r, .int .u8 (c.toNat : Int), .int .u8 (p.toNat : Int), .string (ba i), .slice A1 n1 c1, .string (ba t)] #[.int .i64 k', .int .i32 r', .int .u8 (c'.toNat : Int), .int .u8 (p'.toNat : Int), .string (ba i'), .slice A2 n2 c2, .string (ba t')])
  have CS := Lib.hid (hS _ hb)
  have HB := Lib.hid hb
  have d1 := int_eq k k'
  have d2 := int_eq r r'
  have d3 := u8_eq c c'
  have d4 := u8_eq p p'
  have d5 := beq_ba i i'
  have d7 := beq_ba t t'
  clear hS hb
  by_cases h0 : k = k'
  · rw [decide_eq_true h0] at d1
    by_cases h1 : r = r'
    · rw [decide_eq_true h1] at d2
      by_cases h2 : c = c'
      · rw [decide_eq_true h2] at d3
        by_cases h3 : p = p'
        · rw [decide_eq_true h3] at d4
          by_cases h4 : i = i'
          · rw [decide_eq_true h4] at d5
            by_cases h6 : ps = ps'
            · rw [decide_eq_true h6] at CS
              by_cases h7 : t = t'
              · rw [decide_eq_true h7] at d7
                have hf : decide ((⟨k, r, c, p, i, ps, t⟩ : Vt.E) = ⟨k', r', c', p', i', ps', t'⟩) = true := decide_eq_true (by rw [h0, h1, h2, h3, h4, h6, h7])
                rw [hf]
                clear hf h0 h1 h2 h3 h4 h6 h7
                go_enter Tryd.func17, Tryd.ntmps17
                go_wp2_with fail
                refine CS.out.mono ?_
                rintro e w1 ⟨rfl, b1⟩
                have s1 : w1.cell? ⟨w.heap.size, 6, none⟩ = some (.string (ba t)) := (q1.out.below b1).cell 6
                have s2 : w1.cell? ⟨w.heap.size + 1, 6, none⟩ = some (.string (ba t')) := (q2.out.below b1).cell 6
                have HB1 := Lib.hid (HB.out.trans (b1.mono HB.out.size))
                clear b1 CS HB q1 q2
                go_wp2
                go_ret
                exact ⟨rfl, HB1.out⟩
              · rw [decide_eq_false h7] at d7
                have hf : decide ((⟨k, r, c, p, i, ps, t⟩ : Vt.E) = ⟨k', r', c', p', i', ps', t'⟩) = false := decide_eq_false (fun e => by injection e; contradiction)
                rw [hf]
                clear hf h0 h1 h2 h3 h4 h6 h7
                go_enter Tryd.func17, Tryd.ntmps17
                go_wp2_with fail
                refine CS.out.mono ?_
                rintro e w1 ⟨rfl, b1⟩
                have s1 : w1.cell? ⟨w.heap.size, 6, none⟩ = some (.string (ba t)) := (q1.out.below b1).cell 6
                have s2 : w1.cell? ⟨w.heap.size + 1, 6, none⟩ = some (.string (ba t')) := (q2.out.below b1).cell 6
                have HB1 := Lib.hid (HB.out.trans (b1.mono HB.out.size))
                clear b1 CS HB q1 q2
                go_wp2
                go_ret
                exact ⟨rfl, HB1.out⟩
            · rw [decide_eq_false h6] at CS
              have hf : decide ((⟨k, r, c, p, i, ps, t⟩ : Vt.E) = ⟨k', r', c', p', i', ps', t'⟩) = false := decide_eq_false (fun e => by injection e; contradiction)
              rw [hf]
              clear hf h0 h1 h2 h3 h4 h6
              go_enter Tryd.func17, Tryd.ntmps17
              go_wp2_with fail
              refine CS.out.mono ?_
              rintro e w1 ⟨rfl, b1⟩
              have HB1 := Lib.hid (HB.out.trans (b1.mono HB.out.size))
              clear b1 CS HB q1 q2
              go_wp2
              go_ret
              exact ⟨rfl, HB1.out⟩
          · rw [decide_eq_false h4] at d5
            have hf : decide ((⟨k, r, c, p, i, ps, t⟩ : Vt.E) = ⟨k', r', c', p', i', ps', t'⟩) = false := decide_eq_false (fun e => by injection e; contradiction)
            rw [hf]
            clear hf CS q1 q2 h0 h1 h2 h3 h4
            go_enter Tryd.func17, Tryd.ntmps17
            go_wp2
            go_ret
            exact ⟨rfl, HB.out⟩
        · rw [decide_eq_false h3] at d4
          have hf : decide ((⟨k, r, c, p, i, ps, t⟩ : Vt.E) = ⟨k', r', c', p', i', ps', t'⟩) = false := decide_eq_false (fun e => by injection e; contradiction)
          rw [hf]
          clear hf CS q1 q2 h0 h1 h2 h3
          go_enter Tryd.func17, Tryd.ntmps17
          go_wp2
          go_ret
          exact ⟨rfl, HB.out⟩
      · rw [decide_eq_false h2] at d3
        have hf : decide ((⟨k, r, c, p, i, ps, t⟩ : Vt.E) = ⟨k', r', c', p', i', ps', t'⟩) = false := decide_eq_false (fun e => by injection e; contradiction)
        rw [hf]
        clear hf CS q1 q2 h0 h1 h2
        go_enter Tryd.func17, Tryd.ntmps17
        go_wp2
        go_ret
        exact ⟨rfl, HB.out⟩
    · rw [decide_eq_false h1] at d2
      have hf : decide ((⟨k, r, c, p, i, ps, t⟩ : Vt.E) = ⟨k', r', c', p', i', ps', t'⟩) = false := decide_eq_false (fun e => by injection e; contradiction)
      rw [hf]
      clear hf CS q1 q2 h0 h1
      go_enter Tryd.func17, Tryd.ntmps17
      go_wp2
      go_ret
      exact ⟨rfl, HB.out⟩
  · rw [decide_eq_false h0] at d1
    have hf : decide ((⟨k, r, c, p, i, ps, t⟩ : Vt.E) = ⟨k', r', c', p', i', ps', t'⟩) = false := decide_eq_false (fun e => by injection e; contradiction)
    rw [hf]
    clear hf CS q1 q2 h0
    go_enter Tryd.func17, Tryd.ntmps17
    go_wp2
    go_ret
    exact ⟨rfl, HB.out⟩


set_option maxHeartbeats 400000 in
set_option maxRecDepth 100000 in
theorem all_any (s : ByteArray) (most lo hi : Nat) (w : World) (hs : s.size ≤ 1000) :
    Calls Tryd.prog 27 #[.string s, .int .i64 (most : Int), .int .u8 (lo : Int), .int .u8 (hi : Int)] w fun e w' => e = .returned (.bool (decide (s.size ≤ most) && Vt.within lo hi s.data.toList)) ∧ w = w' := by
  by_cases hbig : s.size ≤ most
  · have hbz : ¬ (most : Int) < (s.size : Int) := by omega
    obtain ⟨R, hR⟩ : ∃ R, Vt.within lo hi s.data.toList = R := ⟨_, rfl⟩
    rw [hR, decide_eq_true hbig, Bool.true_and]
    have HR := Lib.hid hR
    clear hR
    go_enter Tryd.func27, Tryd.ntmps27
    go_wp2
    go_loopg [9] (s.size + 1) (fun gk i wr => ∃ k : Nat, gk + k = s.size + 1 ∧ k ≤ s.size ∧ i = .int .i64 (k : Int) ∧ wr = w ∧ Aside (Vt.within lo hi (s.data.toList.take k) = true))
    case atStart => exact ⟨0, by omega, Nat.zero_le _, rfl, rfl, rfl⟩
    case round =>
      obtain ⟨k, hg, hks, rfl, rfl, hA⟩ := hrel
      have hsl := Lib.size_eq s
      by_cases hlt : k < s.size
      · obtain ⟨g', rfl⟩ : ∃ g', gk = g' + 1 := ⟨gk - 1, by omega⟩
        have hz : (k : Int) < (s.size : Int) := by omega
        have hz0 : (0 : Int) ≤ (k : Int) := by omega
        have hkl : k < s.data.toList.length := by omega
        obtain ⟨b, hb⟩ : ∃ b, s[k] = b := ⟨_, rfl⟩
        have HB : Hid (s.data.toList[k] = b) := Lib.hid hb
        have HL := Lib.hid hsl
        clear hsl
        by_cases h1 : b.toNat < lo
        · have h1z : (b.toNat : Int) < (lo : Int) := by omega
          go_wp2
          go_ret
          refine ⟨ret_bool ?_, rfl⟩
          rw [← HR.out, within_not lo hi _ k hkl]
          rw [HB.out]
          omega
        · have h1z : ¬ (b.toNat : Int) < (lo : Int) := by omega
          by_cases h2 : hi < b.toNat
          · have h2z : (hi : Int) < (b.toNat : Int) := by omega
            go_wp2
            go_ret
            refine ⟨ret_bool ?_, rfl⟩
            rw [← HR.out, within_not lo hi _ k hkl]
            rw [HB.out]
            omega
          · have h2z : ¬ (hi : Int) < (b.toNat : Int) := by omega
            go_wp2
            go_roundg g'
            case measure => omega
            case rel =>
              refine ⟨k + 1, by omega, by omega, by go_num, rfl, ?_⟩
              exact within_take lo hi _ k hkl hA.out (by rw [HB.out]; omega) (by rw [HB.out]; omega)
      · have hz : ¬ (k : Int) < (s.size : Int) := by omega
        have e : s.data.toList.take k = s.data.toList := List.take_of_length_le (by omega)
        rw [e] at hA
        clear e hsl
        go_wp2
        go_ret
        exact ⟨ret_bool (by rw [← HR.out, hA.out]), rfl⟩
  · have hbz : (most : Int) < (s.size : Int) := by omega
    rw [decide_eq_false hbig, Bool.false_and]
    go_enter Tryd.func27, Tryd.ntmps27
    go_wp2
    go_ret
    exact ⟨rfl, rfl⟩

set_option maxHeartbeats 1000000 in
set_option maxRecDepth 100000 in
theorem idle_zero (w : World) : Calls Tryd.prog 9 #[.agg #[.int .i64 0, .string ⟨#[]⟩, .string ⟨#[]⟩]] w fun x w' => x = .returned (.bool true) ∧ Below w.heap.size w w' := by
  go_enter Tryd.func9, Tryd.ntmps9
  go_wp2
  go_ret
  exact ⟨rfl, (Below.refl _ _).alloc (Nat.le_refl _) _⟩


end Go.Proofs.YtihfjkjbeeoanaaDoor
