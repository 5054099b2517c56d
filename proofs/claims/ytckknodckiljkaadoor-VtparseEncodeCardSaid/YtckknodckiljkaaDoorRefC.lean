/-
  The document's own Check of layer 6: what it returns.
-/
import Derived.Test.YtckknodckiljkaaDoorCheck
import Derived.Test.YtckknodckiljkaaDoorRefB
import Derived.Test.YtckknodckiljkaaDoorLong
namespace Go.Proofs.YtckknodckiljkaaDoor
open Go.RowKit

set_option maxHeartbeats 400000 in
set_option maxRecDepth 100000 in
/-- Same of a slice with nil. -/
theorem refsame_nil (A : Option Addr) (n c : Nat) (w : World) :
    Calls Tryd.prog 42 #[.slice A n c, .slice none 0 0] w fun e w' => e = .returned (.bool (decide (n = 0))) ∧ Below w.heap.size w w' := by
  by_cases h : n = 0
  · subst h
    go_enter Tryd.func42, Tryd.ntmps42
    go_wp2
    go_loopg [5] 1 (fun gk i wr => gk = 1 ∧ i = .int .i64 0 ∧ wr = w)
    case atStart => exact ⟨rfl, rfl, rfl⟩
    case round =>
      obtain ⟨rfl, rfl, rfl⟩ := hrel
      go_wp2
      go_ret
      exact ⟨rfl, Below.refl _ _⟩
  · have hne : ((n : Int) != 0) = true := by simpa using h
    have hd : decide (n = 0) = false := by simpa using h
    rw [hd]
    go_enter Tryd.func42, Tryd.ntmps42
    go_wp2
    go_ret
    exact ⟨rfl, Below.refl _ _⟩

set_option maxHeartbeats 2000000 in
set_option maxRecDepth 100000 in
theorem refsame_any (e f : Vt.E) (A1 A2 : Option Addr) (n1 n2 c1 c2 : Nat) (w : World)
    (hS : ∀ W, Below w.heap.size w W → Calls Tryd.prog 42 #[.slice A1 n1 c1, .slice A2 n2 c2] W fun x w' => x = .returned (.bool (decide (e.ps = f.ps))) ∧ Below W.heap.size W w') :
    Calls Tryd.prog 24 #[.agg #[.int .i64 e.k, .int .i32 e.r, .int .u8 (e.c.toNat : Int), .int .u8 (e.p.toNat : Int), .string (ba e.i), .slice A1 n1 c1, .string (ba e.t)], .agg #[.int .i64 f.k, .int .i32 f.r, .int .u8 (f.c.toNat : Int), .int .u8 (f.p.toNat : Int), .string (ba f.i), .slice A2 n2 c2, .string (ba f.t)]] w
      fun x w' => x = .returned (.bool (decide (e = f))) ∧ Below w.heap.size w w' := by
  obtain ⟨k, r, c, p, i, ps, t⟩ := e
  obtain ⟨k', r', c', p', i', ps', t'⟩ := f
  simp only at hS ⊢
  have hb := pair_low w #[.int .i64 k, .int .i32 r, .int .u8 (c.toNat : Int), .int .u8 (p.toNat : Int), .string (ba i), .slice A1 n1 c1, .string (ba t)] #[.int .i64 k', .int .i32 r', .int .u8 (c'.toNat : Int), .int .u8 (p'.toNat : Int), .string (ba i'), .slice A2 n2 c2, .string (ba t')]
  have q1 := Lib.hid (pair_1 w #[.int .i64 k, .int .i32 r, .int .u8 (c.toNat : Int), .int .u8 (p.toNat : Int), .string (ba i), .slice A1 n1 c1, .string (ba t)] #[.int .i64 k', .int .i32 r', .int .u8 (c'.toNat : Int), .int .u8 (p'.toNat : Int), .string (ba i'), .slice A2 n2 c2, .string (ba t')])
  have q2 := Lib.hid (pair_2 w #[.int .i64 k, .int .i32 r, .int .u8 (c.toNat : Int), .int .u8 (p.toNat : Int), .string (ba i), .slice A1 n1 c1, .string (ba t)] #[.int .i64 k', .int .i32 r', .int .u8 (c'.toNat : Int), .int .u8 (p'.toNat : Int), .string (ba i'), .slice A2 n2 c2, .string (ba t')])
  have CS := Lib.hid (hS _ hb)
  have HB := Lib.hid hb
  have d1 := int_eq k k'
  have d2 := int_eq r r'
  have d3 := u8_eq c c'
  have d4 := u8_eq p p'
  have d5 := beq_ba i i'
  have d7 := beq_ba t t'
  clear hS hb
  by_cases h0 : k = k'
  · rw [decide_eq_true h0] at d1
    by_cases h1 : r = r'
    · rw [decide_eq_true h1] at d2
      by_cases h2 : c = c'
      · rw [decide_eq_true h2] at d3
        by_cases h3 : p = p'
        · rw [decide_eq_true h3] at d4
          by_cases h4 : i = i'
          · rw [decide_eq_true h4] at d5
            by_cases h6 : ps = ps'
            · rw [decide_eq_true h6] at CS
              by_cases h7 : t = t'
              · rw [decide_eq_true h7] at d7
                have hf : decide ((⟨k, r, c, p, i, ps, t⟩ : Vt.E) = ⟨k', r', c', p', i', ps', t'⟩) = true := decide_eq_true (by rw [h0, h1, h2, h3, h4, h6, h7])
                rw [hf]
                clear hf h0 h1 h2 h3 h4 h6 h7
                go_enter Tryd.func24, Tryd.ntmps24
                go_wp2_with fail
                refine CS.out.mono ?_
                rintro e w1 ⟨rfl, b1⟩
                have s1 : w1.cell? ⟨w.heap.size, 6, none⟩ = some (.string (ba t)) := (q1.out.below b1).cell 6
                have s2 : w1.cell? ⟨w.heap.size + 1, 6, none⟩ = some (.string (ba t')) := (q2.out.below b1).cell 6
                have HB1 := Lib.hid (HB.out.trans (b1.mono HB.out.size))
                clear b1 CS HB q1 q2
                go_wp2
                go_ret
                exact ⟨rfl, HB1.out⟩
              · rw [decide_eq_false h7] at d7
                have hf : decide ((⟨k, r, c, p, i, ps, t⟩ : Vt.E) = ⟨k', r', c', p', i', ps', t'⟩) = false := decide_eq_false (fun e => by injection e; contradiction)
                rw [hf]
                clear hf h0 h1 h2 h3 h4 h6 h7
                go_enter Tryd.func24, Tryd.ntmps24
                go_wp2_with fail
                refine CS.out.mono ?_
                rintro e w1 ⟨rfl, b1⟩
                have s1 : w1.cell? ⟨w.heap.size, 6, none⟩ = some (.string (ba t)) := (q1.out.below b1).cell 6
                have s2 : w1.cell? ⟨w.heap.size + 1, 6, none⟩ = some (.string (ba t')) := (q2.out.below b1).cell 6
                have HB1 := Lib.hid (HB.out.trans (b1.mono HB.out.size))
                clear b1 CS HB q1 q2
                go_wp2
                go_ret
                exact ⟨rfl, HB1.out⟩
            · rw [decide_eq_false h6] at CS
              have hf : decide ((⟨k, r, c, p, i, ps, t⟩ : Vt.E) = ⟨k', r', c', p', i', ps', t'⟩) = false := decide_eq_false (fun e => by injection e; contradiction)
              rw [hf]
              clear hf h0 h1 h2 h3 h4 h6
              go_enter Tryd.func24, Tryd.ntmps24
              go_wp2_with fail
              refine CS.out.mono ?_
              rintro e w1 ⟨rfl, b1⟩
              have HB1 := Lib.hid (HB.out.trans (b1.mono HB.out.size))
              clear b1 CS HB q1 q2
              go_wp2
              go_ret
              exact ⟨rfl, HB1.out⟩
          · rw [decide_eq_false h4] at d5
            have hf : decide ((⟨k, r, c, p, i, ps, t⟩ : Vt.E) = ⟨k', r', c', p', i', ps', t'⟩) = false := decide_eq_false (fun e => by injection e; contradiction)
            rw [hf]
            clear hf CS q1 q2 h0 h1 h2 h3 h4
            go_enter Tryd.func24, Tryd.ntmps24
            go_wp2
            go_ret
            exact ⟨rfl, HB.out⟩
        · rw [decide_eq_false h3] at d4
          have hf : decide ((⟨k, r, c, p, i, ps, t⟩ : Vt.E) = ⟨k', r', c', p', i', ps', t'⟩) = false := decide_eq_false (fun e => by injection e; contradiction)
          rw [hf]
          clear hf CS q1 q2 h0 h1 h2 h3
          go_enter Tryd.func24, Tryd.ntmps24
          go_wp2
          go_ret
          exact ⟨rfl, HB.out⟩
      · rw [decide_eq_false h2] at d3
        have hf : decide ((⟨k, r, c, p, i, ps, t⟩ : Vt.E) = ⟨k', r', c', p', i', ps', t'⟩) = false := decide_eq_false (fun e => by injection e; contradiction)
        rw [hf]
        clear hf CS q1 q2 h0 h1 h2
        go_enter Tryd.func24, Tryd.ntmps24
        go_wp2
        go_ret
        exact ⟨rfl, HB.out⟩
    · rw [decide_eq_false h1] at d2
      have hf : decide ((⟨k, r, c, p, i, ps, t⟩ : Vt.E) = ⟨k', r', c', p', i', ps', t'⟩) = false := decide_eq_false (fun e => by injection e; contradiction)
      rw [hf]
      clear hf CS q1 q2 h0 h1
      go_enter Tryd.func24, Tryd.ntmps24
      go_wp2
      go_ret
      exact ⟨rfl, HB.out⟩
  · rw [decide_eq_false h0] at d1
    have hf : decide ((⟨k, r, c, p, i, ps, t⟩ : Vt.E) = ⟨k', r', c', p', i', ps', t'⟩) = false := decide_eq_false (fun e => by injection e; contradiction)
    rw [hf]
    clear hf CS q1 q2 h0
    go_enter Tryd.func24, Tryd.ntmps24
    go_wp2
    go_ret
    exact ⟨rfl, HB.out⟩


set_option maxHeartbeats 400000 in
set_option maxRecDepth 100000 in
theorem all_any (s : ByteArray) (most lo hi : Nat) (w : World) (hs : s.size ≤ 1000) :
    Calls Tryd.prog 41 #[.string s, .int .i64 (most : Int), .int .u8 (lo : Int), .int .u8 (hi : Int)] w fun e w' => e = .returned (.bool (decide (s.size ≤ most) && Vt.within lo hi s.data.toList)) ∧ w = w' := by
  by_cases hbig : s.size ≤ most
  · have hbz : ¬ (most : Int) < (s.size : Int) := by omega
    obtain ⟨R, hR⟩ : ∃ R, Vt.within lo hi s.data.toList = R := ⟨_, rfl⟩
    rw [hR, decide_eq_true hbig, Bool.true_and]
    have HR := Lib.hid hR
    clear hR
    go_enter Tryd.func41, Tryd.ntmps41
    go_wp2
    go_loopg [9] (s.size + 1) (fun gk i wr => ∃ k : Nat, gk + k = s.size + 1 ∧ k ≤ s.size ∧ i = .int .i64 (k : Int) ∧ wr = w ∧ Aside (Vt.within lo hi (s.data.toList.take k) = true))
    case atStart => exact ⟨0, by omega, Nat.zero_le _, rfl, rfl, rfl⟩
    case round =>
      obtain ⟨k, hg, hks, rfl, rfl, hA⟩ := hrel
      have hsl := Lib.size_eq s
      by_cases hlt : k < s.size
      · obtain ⟨g', rfl⟩ : ∃ g', gk = g' + 1 := ⟨gk - 1, by omega⟩
        have hz : (k : Int) < (s.size : Int) := by omega
        have hz0 : (0 : Int) ≤ (k : Int) := by omega
        have hkl : k < s.data.toList.length := by omega
        obtain ⟨b, hb⟩ : ∃ b, s[k] = b := ⟨_, rfl⟩
        have HB : Hid (s.data.toList[k] = b) := Lib.hid hb
        have HL := Lib.hid hsl
        clear hsl
        by_cases h1 : b.toNat < lo
        · have h1z : (b.toNat : Int) < (lo : Int) := by omega
          go_wp2
          go_ret
          refine ⟨ret_bool ?_, rfl⟩
          rw [← HR.out, within_not lo hi _ k hkl]
          rw [HB.out]
          omega
        · have h1z : ¬ (b.toNat : Int) < (lo : Int) := by omega
          by_cases h2 : hi < b.toNat
          · have h2z : (hi : Int) < (b.toNat : Int) := by omega
            go_wp2
            go_ret
            refine ⟨ret_bool ?_, rfl⟩
            rw [← HR.out, within_not lo hi _ k hkl]
            rw [HB.out]
            omega
          · have h2z : ¬ (hi : Int) < (b.toNat : Int) := by omega
            go_wp2
            go_roundg g'
            case measure => omega
            case rel =>
              refine ⟨k + 1, by omega, by omega, by go_num, rfl, ?_⟩
              exact within_take lo hi _ k hkl hA.out (by rw [HB.out]; omega) (by rw [HB.out]; omega)
      · have hz : ¬ (k : Int) < (s.size : Int) := by omega
        have e : s.data.toList.take k = s.data.toList := List.take_of_length_le (by omega)
        rw [e] at hA
        clear e hsl
        go_wp2
        go_ret
        exact ⟨ret_bool (by rw [← HR.out, hA.out]), rfl⟩
  · have hbz : (most : Int) < (s.size : Int) := by omega
    rw [decide_eq_false hbig, Bool.false_and]
    go_enter Tryd.func41, Tryd.ntmps41
    go_wp2
    go_ret
    exact ⟨rfl, rfl⟩

end Go.Proofs.YtckknodckiljkaaDoor

namespace Go.Proofs.YtckknodckiljkaaDoor
open Go.RowKit

set_option maxHeartbeats 2000000 in
set_option maxRecDepth 100000 in
theorem refcheck_1 (r : Int) (cc p : UInt8) (i : List UInt8) (ps : List Int) (t : List UInt8) (A : Option Addr) (n c : Nat) (w : World) (h : EvOk w ⟨⟨1, r, cc, p, i, ps, t⟩, A, n, c⟩) (_ : i.length ≤ 400 ∧ n ≤ 100 ∧ t.length ≤ 400) :
    Calls Tryd.prog 23 #[.agg #[.int .i64 1, .int .i32 r, .int .u8 (cc.toNat : Int), .int .u8 (p.toNat : Int), .string (ba i), .slice A n c, .string (ba t)]] w fun x w' => x = .returned (.int .i64 (if Vt.printed r && decide ((⟨1, r, cc, p, i, ps, t⟩ : Vt.E) = ⟨1, r, 0, 0, [], [], []⟩) then 0 else 1)) ∧ Below w.heap.size w w' := by
  have hb := pair_low w #[.int .i64 1, .int .i32 r, .int .u8 (cc.toNat : Int), .int .u8 (p.toNat : Int), .string (ba i), .slice A n c, .string (ba t)] #[.int .i64 1, .int .i32 r, .int .u8 0, .int .u8 0, .string ⟨#[]⟩, .slice none 0 0, .string ⟨#[]⟩]
  have cE := fun W' => refsame_any ⟨1, r, cc, p, i, ps, t⟩ ⟨1, r, 0, 0, [], [], []⟩ A none n 0 c 0 W' (fun W hW => by
    rw [← nil_iff h.1]
    exact refsame_nil A n c W)
  generalize decide ((⟨1, r, cc, p, i, ps, t⟩ : Vt.E) = ⟨1, r, 0, 0, [], [], []⟩) = Q at cE ⊢
  obtain ⟨V, hv⟩ : ∃ V, Vt.printed r = V := ⟨_, rfl⟩
  rw [hv]
  have CE := Lib.hid cE
  have HB := Lib.hid hb
  clear cE hb h
  by_cases h1 : 32 ≤ r
  · by_cases h2 : r < 127
    · have h3 : r ≤ 1114111 := by omega
      have h4 : r < 55296 := by omega
      have hV : V = true := by
        rw [← hv]
        unfold Vt.printed; rw [Bool.eq_iff_iff]; simp only [Bool.and_eq_true, Bool.or_eq_true, decide_eq_true_eq, iff_true]; omega
      subst hV
      clear hv
      go_enter Tryd.func23, Tryd.ntmps23
      go_wp2_with fail
      refine (CE.out _).mono ?_
      rintro e wz ⟨rfl, bz⟩
      have HBz := Lib.hid (HB.out.trans (bz.mono HB.out.size))
      clear bz CE
      cases Q
      · go_wp2
        go_ret
        exact ⟨rfl, HBz.out⟩
      · go_wp2
        go_ret
        exact ⟨rfl, HBz.out⟩
    · by_cases h3 : 159 < r
      · by_cases h4 : r ≤ 1114111
        · by_cases h5 : r < 55296
          · have hV : V = true := by
              rw [← hv]
              unfold Vt.printed; rw [Bool.eq_iff_iff]; simp only [Bool.and_eq_true, Bool.or_eq_true, decide_eq_true_eq, iff_true]; omega
            subst hV
            clear hv
            go_enter Tryd.func23, Tryd.ntmps23
            go_wp2_with fail
            refine (CE.out _).mono ?_
            rintro e wz ⟨rfl, bz⟩
            have HBz := Lib.hid (HB.out.trans (bz.mono HB.out.size))
            clear bz CE
            cases Q
            · go_wp2
              go_ret
              exact ⟨rfl, HBz.out⟩
            · go_wp2
              go_ret
              exact ⟨rfl, HBz.out⟩
          · by_cases h6 : 57343 < r
            · have hV : V = true := by
                rw [← hv]
                unfold Vt.printed; rw [Bool.eq_iff_iff]; simp only [Bool.and_eq_true, Bool.or_eq_true, decide_eq_true_eq, iff_true]; omega
              subst hV
              clear hv
              go_enter Tryd.func23, Tryd.ntmps23
              go_wp2_with fail
              refine (CE.out _).mono ?_
              rintro e wz ⟨rfl, bz⟩
              have HBz := Lib.hid (HB.out.trans (bz.mono HB.out.size))
              clear bz CE
              cases Q
              · go_wp2
                go_ret
                exact ⟨rfl, HBz.out⟩
              · go_wp2
                go_ret
                exact ⟨rfl, HBz.out⟩
            · have hV : V = false := by
                rw [← hv]
                unfold Vt.printed; rw [Bool.eq_iff_iff]; simp only [Bool.and_eq_true, Bool.or_eq_true, decide_eq_true_eq, Bool.false_eq_true, iff_false]; omega
              subst hV
              clear hv
              go_enter Tryd.func23, Tryd.ntmps23
              go_wp2
              go_ret
              exact ⟨rfl, HB.out⟩
        · have hV : V = false := by
            rw [← hv]
            unfold Vt.printed; rw [Bool.eq_iff_iff]; simp only [Bool.and_eq_true, Bool.or_eq_true, decide_eq_true_eq, Bool.false_eq_true, iff_false]; omega
          subst hV
          clear hv
          go_enter Tryd.func23, Tryd.ntmps23
          go_wp2
          go_ret
          exact ⟨rfl, HB.out⟩
      · have hV : V = false := by
          rw [← hv]
          unfold Vt.printed; rw [Bool.eq_iff_iff]; simp only [Bool.and_eq_true, Bool.or_eq_true, decide_eq_true_eq, Bool.false_eq_true, iff_false]; omega
        subst hV
        clear hv
        go_enter Tryd.func23, Tryd.ntmps23
        go_wp2
        go_ret
        exact ⟨rfl, HB.out⟩
  · have hV : V = false := by
      rw [← hv]
      unfold Vt.printed; rw [Bool.eq_iff_iff]; simp only [Bool.and_eq_true, Bool.or_eq_true, decide_eq_true_eq, Bool.false_eq_true, iff_false]; omega
    subst hV
    clear hv
    go_enter Tryd.func23, Tryd.ntmps23
    go_wp2
    go_ret
    exact ⟨rfl, HB.out⟩

set_option maxHeartbeats 2000000 in
set_option maxRecDepth 100000 in
theorem refcheck_2 (r : Int) (cc p : UInt8) (i : List UInt8) (ps : List Int) (t : List UInt8) (A : Option Addr) (n c : Nat) (w : World) (h : EvOk w ⟨⟨2, r, cc, p, i, ps, t⟩, A, n, c⟩) (_ : i.length ≤ 400 ∧ n ≤ 100 ∧ t.length ≤ 400) :
    Calls Tryd.prog 23 #[.agg #[.int .i64 2, .int .i32 r, .int .u8 (cc.toNat : Int), .int .u8 (p.toNat : Int), .string (ba i), .slice A n c, .string (ba t)]] w fun x w' => x = .returned (.int .i64 (if Vt.reported cc && decide ((⟨2, r, cc, p, i, ps, t⟩ : Vt.E) = ⟨2, 0, cc, 0, [], [], []⟩) then 0 else 1)) ∧ Below w.heap.size w w' := by
  have hb := pair_low w #[.int .i64 2, .int .i32 r, .int .u8 (cc.toNat : Int), .int .u8 (p.toNat : Int), .string (ba i), .slice A n c, .string (ba t)] #[.int .i64 2, .int .i32 0, .int .u8 (cc.toNat : Int), .int .u8 0, .string ⟨#[]⟩, .slice none 0 0, .string ⟨#[]⟩]
  have cE := fun W' => refsame_any ⟨2, r, cc, p, i, ps, t⟩ ⟨2, 0, cc, 0, [], [], []⟩ A none n 0 c 0 W' (fun W hW => by
    rw [← nil_iff h.1]
    exact refsame_nil A n c W)
  generalize decide ((⟨2, r, cc, p, i, ps, t⟩ : Vt.E) = ⟨2, 0, cc, 0, [], [], []⟩) = Q at cE ⊢
  obtain ⟨V, hv⟩ : ∃ V, Vt.reported cc = V := ⟨_, rfl⟩
  rw [hv]
  have CE := Lib.hid cE
  have HB := Lib.hid hb
  clear cE hb h
  by_cases h1 : (cc.toNat : Int) < 32
  · by_cases h2 : cc.toNat = 24
    · have hV : V = false := by
        rw [← hv]
        unfold Vt.reported; rw [Bool.eq_iff_iff]; simp only [Bool.and_eq_true, decide_eq_true_eq, ne_eq, Bool.false_eq_true, iff_false]; omega
      subst hV
      clear hv
      have d2 : ((cc.toNat : Int) != 24) = false := by rw [h2]; rfl
      clear h2
      go_enter Tryd.func23, Tryd.ntmps23
      go_wp2
      go_ret
      exact ⟨rfl, HB.out⟩
    · have d2 : ((cc.toNat : Int) != 24) = true := by rw [bne_iff_ne]; omega
      by_cases h3 : cc.toNat = 26
      · have hV : V = false := by
          rw [← hv]
          unfold Vt.reported; rw [Bool.eq_iff_iff]; simp only [Bool.and_eq_true, decide_eq_true_eq, ne_eq, Bool.false_eq_true, iff_false]; omega
        subst hV
        clear hv
        have d3 : ((cc.toNat : Int) != 26) = false := by rw [h3]; rfl
        clear h3
        go_enter Tryd.func23, Tryd.ntmps23
        go_wp2
        go_ret
        exact ⟨rfl, HB.out⟩
      · have d3 : ((cc.toNat : Int) != 26) = true := by rw [bne_iff_ne]; omega
        by_cases h4 : cc.toNat = 27
        · have hV : V = false := by
            rw [← hv]
            unfold Vt.reported; rw [Bool.eq_iff_iff]; simp only [Bool.and_eq_true, decide_eq_true_eq, ne_eq, Bool.false_eq_true, iff_false]; omega
          subst hV
          clear hv
          have d4 : ((cc.toNat : Int) != 27) = false := by rw [h4]; rfl
          clear h4
          go_enter Tryd.func23, Tryd.ntmps23
          go_wp2
          go_ret
          exact ⟨rfl, HB.out⟩
        · have d4 : ((cc.toNat : Int) != 27) = true := by rw [bne_iff_ne]; omega
          have hV : V = true := by
            rw [← hv]
            unfold Vt.reported; rw [Bool.eq_iff_iff]; simp only [Bool.and_eq_true, decide_eq_true_eq, ne_eq, iff_true]; omega
          subst hV
          clear hv
          go_enter Tryd.func23, Tryd.ntmps23
          go_wp2_with fail
          refine (CE.out _).mono ?_
          rintro e wz ⟨rfl, bz⟩
          have HBz := Lib.hid (HB.out.trans (bz.mono HB.out.size))
          clear bz CE
          cases Q
          · go_wp2
            go_ret
            exact ⟨rfl, HBz.out⟩
          · go_wp2
            go_ret
            exact ⟨rfl, HBz.out⟩
  · have hV : V = false := by
      rw [← hv]
      unfold Vt.reported; rw [Bool.eq_iff_iff]; simp only [Bool.and_eq_true, decide_eq_true_eq, ne_eq, Bool.false_eq_true, iff_false]; omega
    subst hV
    clear hv
    go_enter Tryd.func23, Tryd.ntmps23
    go_wp2
    go_ret
    exact ⟨rfl, HB.out⟩

set_option maxHeartbeats 2000000 in
set_option maxRecDepth 100000 in
theorem refcheck_3 (r : Int) (cc p : UInt8) (i : List UInt8) (ps : List Int) (t : List UInt8) (A : Option Addr) (n c : Nat) (w : World) (h : EvOk w ⟨⟨3, r, cc, p, i, ps, t⟩, A, n, c⟩) (hl : i.length ≤ 400 ∧ n ≤ 100 ∧ t.length ≤ 400) :
    Calls Tryd.prog 23 #[.agg #[.int .i64 3, .int .i32 r, .int .u8 (cc.toNat : Int), .int .u8 (p.toNat : Int), .string (ba i), .slice A n c, .string (ba t)]] w fun x w' => x = .returned (.int .i64 (if Vt.escOk i cc && decide ((⟨3, r, cc, p, i, ps, t⟩ : Vt.E) = ⟨3, 0, cc, 0, i, [], []⟩) then 0 else 1)) ∧ Below w.heap.size w w' := by
  have hb := pair_low w #[.int .i64 3, .int .i32 r, .int .u8 (cc.toNat : Int), .int .u8 (p.toNat : Int), .string (ba i), .slice A n c, .string (ba t)] #[.int .i64 3, .int .i32 0, .int .u8 (cc.toNat : Int), .int .u8 0, .string (ba i), .slice none 0 0, .string ⟨#[]⟩]
  have cE := fun W' => refsame_any ⟨3, r, cc, p, i, ps, t⟩ ⟨3, 0, cc, 0, i, [], []⟩ A none n 0 c 0 W' (fun W hW => by
    rw [← nil_iff h.1]
    exact refsame_nil A n c W)
  generalize decide ((⟨3, r, cc, p, i, ps, t⟩ : Vt.E) = ⟨3, 0, cc, 0, i, [], []⟩) = Q at cE ⊢
  obtain ⟨V, hv⟩ : ∃ V, Vt.escOk i cc = V := ⟨_, rfl⟩
  rw [hv]
  have CE := Lib.hid cE
  have HB := Lib.hid hb
  have hiz := ba_size i
  have cA := fun W => all_any (ba i) 2 32 47 W (by omega)
  rw [ba_list, hiz] at cA
  have he := isEmpty_ba i
  obtain ⟨q0, hq0⟩ : ∃ q, i.isEmpty = q := ⟨_, rfl⟩
  rw [hq0] at he
  obtain ⟨qa, hqa⟩ : ∃ q, (decide (i.length ≤ 2) && Vt.within 32 47 i) = q := ⟨_, rfl⟩
  rw [hqa] at cA
  have hv2 : (!(q0 && (decide (cc.toNat = 91) || decide (cc.toNat = 93))) && (qa && (decide (47 < cc.toNat) && decide (cc.toNat ≤ 126)))) = V := by
    rw [← hv, ← hqa, ← hq0]
    unfold Vt.escOk
    rw [Bool.and_assoc (decide (i.length ≤ 2))]
  have CA := Lib.hid cA
  have hv := hv2
  clear cE hb h hl hq0 hqa hv2 cA hiz
  cases qa
  · have hV : V = false := by
      rw [← hv]
      simp
    subst hV
    clear hv
    go_enter Tryd.func23, Tryd.ntmps23
    go_wp2_with fail
    refine (CA.out _).mono ?_
    rintro e w' ⟨rfl, rfl⟩
    go_wp2
    go_ret
    exact ⟨rfl, HB.out⟩
  · by_cases h1 : 48 ≤ cc.toNat
    · have z1 : (48 : Int) ≤ (cc.toNat : Int) := by omega
      by_cases h2 : cc.toNat ≤ 126
      · have z2 : (cc.toNat : Int) ≤ 126 := by omega
        have e1 : decide (47 < cc.toNat) = true := decide_eq_true (by omega)
        rw [e1, decide_eq_true h2] at hv
        cases q0
        · have hV : V = true := by
            rw [← hv]
            rfl
          subst hV
          clear hv
          clear e1
          go_enter Tryd.func23, Tryd.ntmps23
          go_wp2_with fail
          refine (CA.out _).mono ?_
          rintro e w' ⟨rfl, rfl⟩
          go_wp2_with fail
          refine (CE.out _).mono ?_
          rintro e wz ⟨rfl, bz⟩
          have HBz := Lib.hid (HB.out.trans (bz.mono HB.out.size))
          clear bz CE
          cases Q
          · go_wp2
            go_ret
            exact ⟨rfl, HBz.out⟩
          · go_wp2
            go_ret
            exact ⟨rfl, HBz.out⟩
        · by_cases h3 : cc.toNat = 91
          · rw [decide_eq_true h3] at hv
            have d3 : ((cc.toNat : Int) != 91) = false := by rw [h3]; rfl
            have hV : V = false := by
              rw [← hv]
              rfl
            subst hV
            clear hv
            clear e1 h1 h2 h3
            go_enter Tryd.func23, Tryd.ntmps23
            go_wp2_with fail
            refine (CA.out _).mono ?_
            rintro e w' ⟨rfl, rfl⟩
            go_wp2
            go_ret
            exact ⟨rfl, HB.out⟩
          · have d3 : ((cc.toNat : Int) != 91) = true := by rw [bne_iff_ne]; omega
            rw [decide_eq_false h3] at hv
            by_cases h4 : cc.toNat = 93
            · rw [decide_eq_true h4] at hv
              have d4 : ((cc.toNat : Int) != 93) = false := by rw [h4]; rfl
              have hV : V = false := by
                rw [← hv]
                rfl
              subst hV
              clear hv
              clear e1 h1 h2 h3 h4
              go_enter Tryd.func23, Tryd.ntmps23
              go_wp2_with fail
              refine (CA.out _).mono ?_
              rintro e w' ⟨rfl, rfl⟩
              go_wp2
              go_ret
              exact ⟨rfl, HB.out⟩
            · rw [decide_eq_false h4] at hv
              have d4 : ((cc.toNat : Int) != 93) = true := by rw [bne_iff_ne]; omega
              have hV : V = true := by
                rw [← hv]
                rfl
              subst hV
              clear hv
              clear e1 h1 h2 h3 h4
              go_enter Tryd.func23, Tryd.ntmps23
              go_wp2_with fail
              refine (CA.out _).mono ?_
              rintro e w' ⟨rfl, rfl⟩
              go_wp2_with fail
              refine (CE.out _).mono ?_
              rintro e wz ⟨rfl, bz⟩
              have HBz := Lib.hid (HB.out.trans (bz.mono HB.out.size))
              clear bz CE
              cases Q
              · go_wp2
                go_ret
                exact ⟨rfl, HBz.out⟩
              · go_wp2
                go_ret
                exact ⟨rfl, HBz.out⟩
      · have z2 : ¬ (cc.toNat : Int) ≤ 126 := by omega
        have hV : V = false := by
          rw [← hv]
          rw [decide_eq_false h2]; simp
        subst hV
        clear hv
        go_enter Tryd.func23, Tryd.ntmps23
        go_wp2_with fail
        refine (CA.out _).mono ?_
        rintro e w' ⟨rfl, rfl⟩
        go_wp2
        go_ret
        exact ⟨rfl, HB.out⟩
    · have z1 : ¬ (48 : Int) ≤ (cc.toNat : Int) := by omega
      have hV : V = false := by
        rw [← hv]
        have e1 : decide (47 < cc.toNat) = false := decide_eq_false (by omega)
        rw [e1]; simp
      subst hV
      clear hv
      go_enter Tryd.func23, Tryd.ntmps23
      go_wp2_with fail
      refine (CA.out _).mono ?_
      rintro e w' ⟨rfl, rfl⟩
      go_wp2
      go_ret
      exact ⟨rfl, HB.out⟩

set_option maxHeartbeats 2000000 in
set_option maxRecDepth 100000 in
theorem refcheck_4 (r : Int) (cc p : UInt8) (i : List UInt8) (ps : List Int) (t : List UInt8) (A : Option Addr) (n c : Nat) (w : World) (h : EvOk w ⟨⟨4, r, cc, p, i, ps, t⟩, A, n, c⟩) (hl : i.length ≤ 400 ∧ n ≤ 100 ∧ t.length ≤ 400) :
    Calls Tryd.prog 23 #[.agg #[.int .i64 4, .int .i32 r, .int .u8 (cc.toNat : Int), .int .u8 (p.toNat : Int), .string (ba i), .slice A n c, .string (ba t)]] w fun x w' => x = .returned (.int .i64 (if Vt.seqOk p ps i cc && decide ((⟨4, r, cc, p, i, ps, t⟩ : Vt.E) = ⟨4, 0, cc, p, i, ps, []⟩) then 0 else 1)) ∧ Below w.heap.size w w' := by
  have hb := pair_low w #[.int .i64 4, .int .i32 r, .int .u8 (cc.toNat : Int), .int .u8 (p.toNat : Int), .string (ba i), .slice A n c, .string (ba t)] #[.int .i64 4, .int .i32 0, .int .u8 (cc.toNat : Int), .int .u8 (p.toNat : Int), .string (ba i), .slice A n c, .string ⟨#[]⟩]
  have hX := h.below hb
  have cE := fun W' (hW' : Below (pairE w #[.int .i64 4, .int .i32 r, .int .u8 (cc.toNat : Int), .int .u8 (p.toNat : Int), .string (ba i), .slice A n c, .string (ba t)] #[.int .i64 4, .int .i32 0, .int .u8 (cc.toNat : Int), .int .u8 (p.toNat : Int), .string (ba i), .slice A n c, .string ⟨#[]⟩]).heap.size (pairE w #[.int .i64 4, .int .i32 r, .int .u8 (cc.toNat : Int), .int .u8 (p.toNat : Int), .string (ba i), .slice A n c, .string (ba t)] #[.int .i64 4, .int .i32 0, .int .u8 (cc.toNat : Int), .int .u8 (p.toNat : Int), .string (ba i), .slice A n c, .string ⟨#[]⟩]) W') => refsame_any ⟨4, r, cc, p, i, ps, t⟩ ⟨4, 0, cc, p, i, ps, []⟩ A A n n c c W' (fun W hW => by
    rw [decide_eq_true rfl]
    exact Ci.same_yes A A n n c c W.heap.size W.heap.size ps W (by have := h.1.1; simp only at this; omega) ((hX.below hW').below hW).1 ((hX.below hW').below hW).1)
  obtain ⟨lr, hlr⟩ : ∃ lr, Cp.fmt p ps i = lr := ⟨_, rfl⟩
  obtain ⟨l, er⟩ := lr
  have hiz := ba_size i
  have cF := Ci.refformat_any p A n c (pairE w #[.int .i64 4, .int .i32 r, .int .u8 (cc.toNat : Int), .int .u8 (p.toNat : Int), .string (ba i), .slice A n c, .string (ba t)] #[.int .i64 4, .int .i32 0, .int .u8 (cc.toNat : Int), .int .u8 (p.toNat : Int), .string (ba i), .slice A n c, .string ⟨#[]⟩]).heap.size ps (ba i) (pairE w #[.int .i64 4, .int .i32 r, .int .u8 (cc.toNat : Int), .int .u8 (p.toNat : Int), .string (ba i), .slice A n c, .string (ba t)] #[.int .i64 4, .int .i32 0, .int .u8 (cc.toNat : Int), .int .u8 (p.toNat : Int), .string (ba i), .slice A n c, .string ⟨#[]⟩]) (Nat.le_refl _) hX.1 (by omega) (by omega) h.2.2.2.2 (l := l) (er := er) (by rw [ba_list]; exact hlr)
  have CF := Lib.hid cF
  have q1 := Lib.hid (pair_1 w #[.int .i64 4, .int .i32 r, .int .u8 (cc.toNat : Int), .int .u8 (p.toNat : Int), .string (ba i), .slice A n c, .string (ba t)] #[.int .i64 4, .int .i32 0, .int .u8 (cc.toNat : Int), .int .u8 (p.toNat : Int), .string (ba i), .slice A n c, .string ⟨#[]⟩])
  have q2 := Lib.hid (pair_2 w #[.int .i64 4, .int .i32 r, .int .u8 (cc.toNat : Int), .int .u8 (p.toNat : Int), .string (ba i), .slice A n c, .string (ba t)] #[.int .i64 4, .int .i32 0, .int .u8 (cc.toNat : Int), .int .u8 (p.toNat : Int), .string (ba i), .slice A n c, .string ⟨#[]⟩])
  generalize decide ((⟨4, r, cc, p, i, ps, t⟩ : Vt.E) = ⟨4, 0, cc, p, i, ps, []⟩) = Q at cE ⊢
  obtain ⟨V, hv⟩ : ∃ V, Vt.seqOk p ps i cc = V := ⟨_, rfl⟩
  rw [hv]
  have CE := Lib.hid cE
  have HB := Lib.hid hb
  have hv2 : (decide (er = 0) && (decide (63 < cc.toNat) && decide (cc.toNat ≤ 126))) = V := by
    rw [← hv]
    unfold Vt.seqOk
    rw [hlr]
  have hv := hv2
  clear cE hb h hl hX hlr hv2 cF hiz
  by_cases h0 : er = 0
  · subst h0
    by_cases h1 : 64 ≤ cc.toNat
    · have z1 : (64 : Int) ≤ (cc.toNat : Int) := by omega
      by_cases h2 : cc.toNat ≤ 126
      · have z2 : (cc.toNat : Int) ≤ 126 := by omega
        have hV : V = true := by
          rw [← hv]
          rw [decide_eq_true h2, decide_eq_true (show 63 < cc.toNat by omega)]; rfl
        subst hV
        clear hv
        go_enter Tryd.func23, Tryd.ntmps23
        go_wp2_with fail
        refine CF.out.mono ?_
        rintro e w1 ⟨tt, rfl, _, b1⟩
        have BF := Lib.hid b1
        have HB2 := Lib.hid (HB.out.trans (b1.mono HB.out.size))
        have k1 := Lib.hid (q1.out.below b1)
        have k2 := Lib.hid (q2.out.below b1)
        have a0 : w1.cell? ⟨w.heap.size, 0, none⟩ = some (.int .i64 4) := k1.out.cell 0
        have c0 : w1.cell? ⟨w.heap.size + 1, 0, none⟩ = some (.int .i64 4) := k2.out.cell 0
        have a1 : w1.cell? ⟨w.heap.size, 1, none⟩ = some (.int .i32 r) := k1.out.cell 1
        have c1 : w1.cell? ⟨w.heap.size + 1, 1, none⟩ = some (.int .i32 0) := k2.out.cell 1
        have a2 : w1.cell? ⟨w.heap.size, 2, none⟩ = some (.int .u8 (cc.toNat : Int)) := k1.out.cell 2
        have c2 : w1.cell? ⟨w.heap.size + 1, 2, none⟩ = some (.int .u8 (cc.toNat : Int)) := k2.out.cell 2
        have a3 : w1.cell? ⟨w.heap.size, 3, none⟩ = some (.int .u8 (p.toNat : Int)) := k1.out.cell 3
        have c3 : w1.cell? ⟨w.heap.size + 1, 3, none⟩ = some (.int .u8 (p.toNat : Int)) := k2.out.cell 3
        have a4 : w1.cell? ⟨w.heap.size, 4, none⟩ = some (.string (ba i)) := k1.out.cell 4
        have c4 : w1.cell? ⟨w.heap.size + 1, 4, none⟩ = some (.string (ba i)) := k2.out.cell 4
        have a5 : w1.cell? ⟨w.heap.size, 5, none⟩ = some (.slice A n c) := k1.out.cell 5
        have c5 : w1.cell? ⟨w.heap.size + 1, 5, none⟩ = some (.slice A n c) := k2.out.cell 5
        have a6 : w1.cell? ⟨w.heap.size, 6, none⟩ = some (.string (ba t)) := k1.out.cell 6
        have c6 : w1.cell? ⟨w.heap.size + 1, 6, none⟩ = some (.string ⟨#[]⟩) := k2.out.cell 6
        clear b1 CF q1 q2 k1 k2
        go_wp2_with fail
        refine (CE.out _ BF.out).mono ?_
        rintro e wz ⟨rfl, bz⟩
        have HBz := Lib.hid (HB2.out.trans (bz.mono HB2.out.size))
        clear bz CE
        cases Q
        · go_wp2
          go_ret
          exact ⟨rfl, HBz.out⟩
        · go_wp2
          go_ret
          exact ⟨rfl, HBz.out⟩
      · have z2 : ¬ (cc.toNat : Int) ≤ 126 := by omega
        have hV : V = false := by
          rw [← hv]
          rw [decide_eq_false h2]; simp
        subst hV
        clear hv
        go_enter Tryd.func23, Tryd.ntmps23
        go_wp2_with fail
        refine CF.out.mono ?_
        rintro e w1 ⟨tt, rfl, _, b1⟩
        have BF := Lib.hid b1
        have HB2 := Lib.hid (HB.out.trans (b1.mono HB.out.size))
        have k1 := Lib.hid (q1.out.below b1)
        have k2 := Lib.hid (q2.out.below b1)
        have a0 : w1.cell? ⟨w.heap.size, 0, none⟩ = some (.int .i64 4) := k1.out.cell 0
        have c0 : w1.cell? ⟨w.heap.size + 1, 0, none⟩ = some (.int .i64 4) := k2.out.cell 0
        have a1 : w1.cell? ⟨w.heap.size, 1, none⟩ = some (.int .i32 r) := k1.out.cell 1
        have c1 : w1.cell? ⟨w.heap.size + 1, 1, none⟩ = some (.int .i32 0) := k2.out.cell 1
        have a2 : w1.cell? ⟨w.heap.size, 2, none⟩ = some (.int .u8 (cc.toNat : Int)) := k1.out.cell 2
        have c2 : w1.cell? ⟨w.heap.size + 1, 2, none⟩ = some (.int .u8 (cc.toNat : Int)) := k2.out.cell 2
        have a3 : w1.cell? ⟨w.heap.size, 3, none⟩ = some (.int .u8 (p.toNat : Int)) := k1.out.cell 3
        have c3 : w1.cell? ⟨w.heap.size + 1, 3, none⟩ = some (.int .u8 (p.toNat : Int)) := k2.out.cell 3
        have a4 : w1.cell? ⟨w.heap.size, 4, none⟩ = some (.string (ba i)) := k1.out.cell 4
        have c4 : w1.cell? ⟨w.heap.size + 1, 4, none⟩ = some (.string (ba i)) := k2.out.cell 4
        have a5 : w1.cell? ⟨w.heap.size, 5, none⟩ = some (.slice A n c) := k1.out.cell 5
        have c5 : w1.cell? ⟨w.heap.size + 1, 5, none⟩ = some (.slice A n c) := k2.out.cell 5
        have a6 : w1.cell? ⟨w.heap.size, 6, none⟩ = some (.string (ba t)) := k1.out.cell 6
        have c6 : w1.cell? ⟨w.heap.size + 1, 6, none⟩ = some (.string ⟨#[]⟩) := k2.out.cell 6
        clear b1 CF q1 q2 k1 k2
        go_wp2
        go_ret
        exact ⟨rfl, HB2.out⟩
    · have z1 : ¬ (64 : Int) ≤ (cc.toNat : Int) := by omega
      have hV : V = false := by
        rw [← hv]
        rw [decide_eq_false (show ¬ 63 < cc.toNat by omega)]; simp
      subst hV
      clear hv
      go_enter Tryd.func23, Tryd.ntmps23
      go_wp2_with fail
      refine CF.out.mono ?_
      rintro e w1 ⟨tt, rfl, _, b1⟩
      have BF := Lib.hid b1
      have HB2 := Lib.hid (HB.out.trans (b1.mono HB.out.size))
      have k1 := Lib.hid (q1.out.below b1)
      have k2 := Lib.hid (q2.out.below b1)
      have a0 : w1.cell? ⟨w.heap.size, 0, none⟩ = some (.int .i64 4) := k1.out.cell 0
      have c0 : w1.cell? ⟨w.heap.size + 1, 0, none⟩ = some (.int .i64 4) := k2.out.cell 0
      have a1 : w1.cell? ⟨w.heap.size, 1, none⟩ = some (.int .i32 r) := k1.out.cell 1
      have c1 : w1.cell? ⟨w.heap.size + 1, 1, none⟩ = some (.int .i32 0) := k2.out.cell 1
      have a2 : w1.cell? ⟨w.heap.size, 2, none⟩ = some (.int .u8 (cc.toNat : Int)) := k1.out.cell 2
      have c2 : w1.cell? ⟨w.heap.size + 1, 2, none⟩ = some (.int .u8 (cc.toNat : Int)) := k2.out.cell 2
      have a3 : w1.cell? ⟨w.heap.size, 3, none⟩ = some (.int .u8 (p.toNat : Int)) := k1.out.cell 3
      have c3 : w1.cell? ⟨w.heap.size + 1, 3, none⟩ = some (.int .u8 (p.toNat : Int)) := k2.out.cell 3
      have a4 : w1.cell? ⟨w.heap.size, 4, none⟩ = some (.string (ba i)) := k1.out.cell 4
      have c4 : w1.cell? ⟨w.heap.size + 1, 4, none⟩ = some (.string (ba i)) := k2.out.cell 4
      have a5 : w1.cell? ⟨w.heap.size, 5, none⟩ = some (.slice A n c) := k1.out.cell 5
      have c5 : w1.cell? ⟨w.heap.size + 1, 5, none⟩ = some (.slice A n c) := k2.out.cell 5
      have a6 : w1.cell? ⟨w.heap.size, 6, none⟩ = some (.string (ba t)) := k1.out.cell 6
      have c6 : w1.cell? ⟨w.heap.size + 1, 6, none⟩ = some (.string ⟨#[]⟩) := k2.out.cell 6
      clear b1 CF q1 q2 k1 k2
      go_wp2
      go_ret
      exact ⟨rfl, HB2.out⟩
  · have z0 : (er == 0) = false := by simpa using h0
    have hV : V = false := by
      rw [← hv]
      rw [decide_eq_false h0]; rfl
    subst hV
    clear hv
    go_enter Tryd.func23, Tryd.ntmps23
    go_wp2_with fail
    refine CF.out.mono ?_
    rintro e w1 ⟨tt, rfl, _, b1⟩
    have BF := Lib.hid b1
    have HB2 := Lib.hid (HB.out.trans (b1.mono HB.out.size))
    have k1 := Lib.hid (q1.out.below b1)
    have k2 := Lib.hid (q2.out.below b1)
    have a0 : w1.cell? ⟨w.heap.size, 0, none⟩ = some (.int .i64 4) := k1.out.cell 0
    have c0 : w1.cell? ⟨w.heap.size + 1, 0, none⟩ = some (.int .i64 4) := k2.out.cell 0
    have a1 : w1.cell? ⟨w.heap.size, 1, none⟩ = some (.int .i32 r) := k1.out.cell 1
    have c1 : w1.cell? ⟨w.heap.size + 1, 1, none⟩ = some (.int .i32 0) := k2.out.cell 1
    have a2 : w1.cell? ⟨w.heap.size, 2, none⟩ = some (.int .u8 (cc.toNat : Int)) := k1.out.cell 2
    have c2 : w1.cell? ⟨w.heap.size + 1, 2, none⟩ = some (.int .u8 (cc.toNat : Int)) := k2.out.cell 2
    have a3 : w1.cell? ⟨w.heap.size, 3, none⟩ = some (.int .u8 (p.toNat : Int)) := k1.out.cell 3
    have c3 : w1.cell? ⟨w.heap.size + 1, 3, none⟩ = some (.int .u8 (p.toNat : Int)) := k2.out.cell 3
    have a4 : w1.cell? ⟨w.heap.size, 4, none⟩ = some (.string (ba i)) := k1.out.cell 4
    have c4 : w1.cell? ⟨w.heap.size + 1, 4, none⟩ = some (.string (ba i)) := k2.out.cell 4
    have a5 : w1.cell? ⟨w.heap.size, 5, none⟩ = some (.slice A n c) := k1.out.cell 5
    have c5 : w1.cell? ⟨w.heap.size + 1, 5, none⟩ = some (.slice A n c) := k2.out.cell 5
    have a6 : w1.cell? ⟨w.heap.size, 6, none⟩ = some (.string (ba t)) := k1.out.cell 6
    have c6 : w1.cell? ⟨w.heap.size + 1, 6, none⟩ = some (.string ⟨#[]⟩) := k2.out.cell 6
    clear b1 CF q1 q2 k1 k2
    go_wp2
    go_ret
    exact ⟨rfl, HB2.out⟩

set_option maxHeartbeats 2000000 in
set_option maxRecDepth 100000 in
theorem refcheck_5 (r : Int) (cc p : UInt8) (i : List UInt8) (ps : List Int) (t : List UInt8) (A : Option Addr) (n c : Nat) (w : World) (h : EvOk w ⟨⟨5, r, cc, p, i, ps, t⟩, A, n, c⟩) (hl : i.length ≤ 400 ∧ n ≤ 100 ∧ t.length ≤ 400) :
    Calls Tryd.prog 23 #[.agg #[.int .i64 5, .int .i32 r, .int .u8 (cc.toNat : Int), .int .u8 (p.toNat : Int), .string (ba i), .slice A n c, .string (ba t)]] w fun x w' => x = .returned (.int .i64 (if Vt.cmdOk t && decide ((⟨5, r, cc, p, i, ps, t⟩ : Vt.E) = ⟨5, 0, 0, 0, [], [], t⟩) then 0 else 1)) ∧ Below w.heap.size w w' := by
  have hb := pair_low w #[.int .i64 5, .int .i32 r, .int .u8 (cc.toNat : Int), .int .u8 (p.toNat : Int), .string (ba i), .slice A n c, .string (ba t)] #[.int .i64 5, .int .i32 0, .int .u8 0, .int .u8 0, .string ⟨#[]⟩, .slice none 0 0, .string (ba t)]
  have cE := fun W' => refsame_any ⟨5, r, cc, p, i, ps, t⟩ ⟨5, 0, 0, 0, [], [], t⟩ A none n 0 c 0 W' (fun W hW => by
    rw [← nil_iff h.1]
    exact refsame_nil A n c W)
  generalize decide ((⟨5, r, cc, p, i, ps, t⟩ : Vt.E) = ⟨5, 0, 0, 0, [], [], t⟩) = Q at cE ⊢
  obtain ⟨V, hv⟩ : ∃ V, Vt.cmdOk t = V := ⟨_, rfl⟩
  rw [hv]
  have CE := Lib.hid cE
  have HB := Lib.hid hb
  have hiz := ba_size t
  have cA := fun W => all_any (ba t) 256 32 255 W (by omega)
  rw [ba_list, hiz] at cA
  unfold Vt.cmdOk at hv
  rw [hv] at cA
  have CA := Lib.hid cA
  clear cE hb h hl cA hiz hv
  cases V
  · go_enter Tryd.func23, Tryd.ntmps23
    go_wp2_with fail
    refine (CA.out _).mono ?_
    rintro e w' ⟨rfl, rfl⟩
    go_wp2
    go_ret
    exact ⟨rfl, HB.out⟩
  · go_enter Tryd.func23, Tryd.ntmps23
    go_wp2_with fail
    refine (CA.out _).mono ?_
    rintro e w' ⟨rfl, rfl⟩
    go_wp2_with fail
    refine (CE.out _).mono ?_
    rintro e wz ⟨rfl, bz⟩
    have HBz := Lib.hid (HB.out.trans (bz.mono HB.out.size))
    clear bz CE
    cases Q
    · go_wp2
      go_ret
      exact ⟨rfl, HBz.out⟩
    · go_wp2
      go_ret
      exact ⟨rfl, HBz.out⟩

set_option maxHeartbeats 1000000 in
set_option maxRecDepth 100000 in
theorem refcheck_other (k r : Int) (cc p : UInt8) (i t : List UInt8) (A : Option Addr) (n c : Nat) (w : World) (hk : ¬ (1 ≤ k ∧ k ≤ 5)) :
    Calls Tryd.prog 23 #[.agg #[.int .i64 k, .int .i32 r, .int .u8 (cc.toNat : Int), .int .u8 (p.toNat : Int), .string (ba i), .slice A n c, .string (ba t)]] w fun x w' => x = .returned (.int .i64 9) ∧ Below w.heap.size w w' := by
  have d1 : (k == 1) = false := by simp; omega
  have d2 : (k == 2) = false := by simp; omega
  have d3 : (k == 3) = false := by simp; omega
  have d4 : (k == 4) = false := by simp; omega
  have d5 : (k == 5) = false := by simp; omega
  go_enter Tryd.func23, Tryd.ntmps23
  go_wp2
  go_ret
  exact ⟨rfl, pair_low w _ _⟩
theorem short_of {g : G} (h : long g = false) : g.e.i.length ≤ 400 ∧ g.n ≤ 100 ∧ g.e.t.length ≤ 400 := by
  unfold long at h
  simp only [Bool.or_eq_false_iff, decide_eq_false_iff_not] at h
  omega
/-- What Check of the document's own answers returns. -/
theorem refcheck_any (g : G) (w : World) (h : EvOk w g) (hl : long g = false) :
    Calls Tryd.prog 23 #[.agg #[.int .i64 g.e.k, .int .i32 g.e.r, .int .u8 (g.e.c.toNat : Int), .int .u8 (g.e.p.toNat : Int), .string (ba g.e.i), .slice g.A g.n g.c, .string (ba g.e.t)]] w fun x w' => x = .returned (.int .i64 (Vt.chk g.e)) ∧ Below w.heap.size w w' := by
  have hs := short_of hl
  obtain ⟨⟨k, r, cc, p, i, ps, t⟩, A, n, c⟩ := g
  simp only at hs
  by_cases hk : 1 ≤ k ∧ k ≤ 5
  · have e : Vt.chk ⟨k, r, cc, p, i, ps, t⟩ = if Vt.fits ⟨k, r, cc, p, i, ps, t⟩ && decide ((⟨k, r, cc, p, i, ps, t⟩ : Vt.E) = Vt.only ⟨k, r, cc, p, i, ps, t⟩) then 0 else 1 := by
      unfold Vt.chk
      rw [if_pos hk]
    rw [e]
    obtain rfl | rfl | rfl | rfl | rfl : k = 1 ∨ k = 2 ∨ k = 3 ∨ k = 4 ∨ k = 5 := by omega
    · exact refcheck_1 r cc p i ps t A n c w h hs
    · exact refcheck_2 r cc p i ps t A n c w h hs
    · exact refcheck_3 r cc p i ps t A n c w h hs
    · exact refcheck_4 r cc p i ps t A n c w h hs
    · exact refcheck_5 r cc p i ps t A n c w h hs
  · have e : Vt.chk ⟨k, r, cc, p, i, ps, t⟩ = 9 := by
      unfold Vt.chk
      rw [if_neg hk]
    rw [e]
    exact refcheck_other k r cc p i t A n c w hk

end Go.Proofs.YtckknodckiljkaaDoor
