/-
  What areEqual, isReported, isEscapeSequence and isControlSequence of vtparse return.
-/
import Derived.Test.YtckknodckiljkaaDoorSame
import Derived.Test.YtckknodckiljkaaDoorVtMore
import Derived.Test.YtckknodckiljkaaDoorFormatW
namespace Go.Proofs.YtckknodckiljkaaDoor
open Go.RowKit

theorem u8_eq (a b : UInt8) : ((a.toNat : Int) == (b.toNat : Int)) = decide (a = b) := by
  by_cases h : a = b
  · subst h; simp
  · have h2 : a.toNat ≠ b.toNat := fun e => h (UInt8.toNat_inj.1 e)
    rw [decide_eq_false h]
    simp; omega
theorem int_eq (a b : Int) : (a == b) = decide (a = b) := by
  by_cases h : a = b
  · subst h; simp
  · rw [decide_eq_false h]; simpa using h

set_option maxHeartbeats 400000 in
set_option maxRecDepth 100000 in
/-- slices.Equal of a slice with itself. -/
theorem equal_self (A : Option Addr) (n c B : Nat) (xs : List Int) (w : World) (hn : n ≤ 9223372036854775807) (h : Ci.Nums w B A n xs) :
    Calls Tryd.prog 61 #[.slice A n c, .slice A n c] w fun e w' => e = .returned (.bool true) ∧ Below w.heap.size w w' := by
  have hne : ((n : Int) != (n : Int)) = false := by simp
  have HX := Lib.hid h
  clear h
  go_enter Tryd.func61, Tryd.ntmps61
  go_wp2
  go_loopg [5, 13] (n + 1) (fun gk _ i wr => ∃ k m : Nat, gk + k = n + 1 ∧ k ≤ n ∧ i = .int .i64 (k : Int) ∧ wr = w.drewN m)
  case atStart => exact ⟨0, 0, by omega, Nat.zero_le _, rfl, rfl⟩
  case round =>
    obtain ⟨k, m, hg, hk, rfl, rfl⟩ := hrel
    by_cases hlt : k < n
    · obtain ⟨g', rfl⟩ : ∃ g', gk = g' + 1 := ⟨gk - 1, by omega⟩
      obtain ⟨b1, o1, rfl, hb1, hc1⟩ := HX.out.2 k hlt
      generalize xs.getD k 0 = x at hc1
      have hx : ((x : Int) != x) = false := by simp
      have hz : (k : Int) < (n : Int) := by omega
      have hz0 : (0 : Int) ≤ (k : Int) := by omega
      go_wp2
      go_quiet (fail)
      go_wp2
      go_roundg g'
      case measure => omega
      case rel => exact ⟨k + 1, m + nq, by omega, by omega, by go_num, rfl⟩
    · have hz : ¬ (k : Int) < (n : Int) := by omega
      go_wp2
      go_ret
      exact ⟨rfl, below_drewN (Below.refl _ _) m⟩
set_option maxHeartbeats 400000 in
set_option maxRecDepth 100000 in
/-- slices.Equal of a slice with nil. -/
theorem equal_nil (A : Option Addr) (n c : Nat) (w : World) :
    Calls Tryd.prog 61 #[.slice A n c, .slice none 0 0] w fun e w' => e = .returned (.bool (decide (n = 0))) ∧ Below w.heap.size w w' := by
  by_cases h : n = 0
  · subst h
    go_enter Tryd.func61, Tryd.ntmps61
    go_wp2
    go_loopg [5, 13] 1 (fun gk _ i wr => gk = 1 ∧ i = .int .i64 0 ∧ wr = w)
    case atStart => exact ⟨rfl, rfl, rfl⟩
    case round =>
      obtain ⟨rfl, rfl, rfl⟩ := hrel
      go_wp2
      go_ret
      exact ⟨rfl, Below.refl _ _⟩
  · have hne : ((n : Int) != 0) = true := by simpa using h
    have hd : decide (n = 0) = false := by simpa using h
    rw [hd]
    go_enter Tryd.func61, Tryd.ntmps61
    go_wp2
    go_ret
    exact ⟨rfl, Below.refl _ _⟩

set_option maxHeartbeats 2000000 in
set_option maxRecDepth 100000 in
theorem areEqual_any (e f : Vt.E) (A1 A2 : Option Addr) (n1 n2 c1 c2 : Nat) (w : World)
    (hS : ∀ W, Below w.heap.size w W → Calls Tryd.prog 61 #[.slice A1 n1 c1, .slice A2 n2 c2] W fun x w' => x = .returned (.bool (decide (e.ps = f.ps))) ∧ Below W.heap.size W w') :
    Calls Tryd.prog 40 #[.agg #[.int .i64 e.k, .int .i32 e.r, .int .u8 (e.c.toNat : Int), .int .u8 (e.p.toNat : Int), .string (ba e.i), .slice A1 n1 c1, .string (ba e.t)], .agg #[.int .i64 f.k, .int .i32 f.r, .int .u8 (f.c.toNat : Int), .int .u8 (f.p.toNat : Int), .string (ba f.i), .slice A2 n2 c2, .string (ba f.t)]] w
      fun x w' => x = .returned (.bool (decide (e = f))) ∧ Below w.heap.size w w' := by
  obtain ⟨k, r, c, p, i, ps, t⟩ := e
  obtain ⟨k', r', c', p', i', ps', t'⟩ := f
  simp only at hS ⊢
  have hb := pair_low w #[.int .i64 k, .int .i32 r, .int .u8 (c.toNat : Int), .int .u8 (p.toNat : Int), .string (ba i), .slice A1 n1 c1, .string (ba t)] #[.int .i64 k', .int .i32 r', .int .u8 (c'.toNat : Int), .int .u8 (p'.toNat : Int), .string (ba i'), .slice A2 n2 c2, .string (ba t')]
  have q1 := Lib.hid (pair_1 w #[.int .i64 k, .int .i32 r, .int .u8 (c.toNat : Int), .int .u8 (p.toNat : Int), .string (ba i), .slice A1 n1 c1, .string (ba t)] #[.int .i64 k', .int .i32 r', .int .u8 (c'.toNat : Int), .int .u8 (p'.toNat : Int), .string (ba i'), .slice A2 n2 c2, .string (ba t')])
  have q2 := Lib.hid (pair_2 w #[.int .i64 k, .int .i32 r, .int .u8 (c.toNat : Int), .int .u8 (p.toNat : Int), .string (ba i), .slice A1 n1 c1, .string (ba t)] #[.int .i64 k', .int .i32 r', .int .u8 (c'.toNat : Int), .int .u8 (p'.toNat : Int), .string (ba i'), .slice A2 n2 c2, .string (ba t')])
  have CS := Lib.hid (hS _ hb)
  have HB := Lib.hid hb
  have d1 := int_eq k k'
  have d2 := int_eq r r'
  have d3 := u8_eq c c'
  have d4 := u8_eq p p'
  have d5 := beq_ba i i'
  have d7 := beq_ba t t'
  clear hS hb
  by_cases h0 : k = k'
  · rw [decide_eq_true h0] at d1
    by_cases h1 : r = r'
    · rw [decide_eq_true h1] at d2
      by_cases h2 : c = c'
      · rw [decide_eq_true h2] at d3
        by_cases h3 : p = p'
        · rw [decide_eq_true h3] at d4
          by_cases h4 : i = i'
          · rw [decide_eq_true h4] at d5
            by_cases h6 : ps = ps'
            · rw [decide_eq_true h6] at CS
              by_cases h7 : t = t'
              · rw [decide_eq_true h7] at d7
                have hf : decide ((⟨k, r, c, p, i, ps, t⟩ : Vt.E) = ⟨k', r', c', p', i', ps', t'⟩) = true := decide_eq_true (by rw [h0, h1, h2, h3, h4, h6, h7])
                rw [hf]
                clear hf h0 h1 h2 h3 h4 h6 h7
                go_enter Tryd.func40, Tryd.ntmps40
                go_wp2_with fail
                refine CS.out.mono ?_
                rintro e w1 ⟨rfl, b1⟩
                have s1 : w1.cell? ⟨w.heap.size, 6, none⟩ = some (.string (ba t)) := (q1.out.below b1).cell 6
                have s2 : w1.cell? ⟨w.heap.size + 1, 6, none⟩ = some (.string (ba t')) := (q2.out.below b1).cell 6
                have HB1 := Lib.hid (HB.out.trans (b1.mono HB.out.size))
                clear b1 CS HB q1 q2
                go_wp2
                go_ret
                exact ⟨rfl, HB1.out⟩
              · rw [decide_eq_false h7] at d7
                have hf : decide ((⟨k, r, c, p, i, ps, t⟩ : Vt.E) = ⟨k', r', c', p', i', ps', t'⟩) = false := decide_eq_false (fun e => by injection e; contradiction)
                rw [hf]
                clear hf h0 h1 h2 h3 h4 h6 h7
                go_enter Tryd.func40, Tryd.ntmps40
                go_wp2_with fail
                refine CS.out.mono ?_
                rintro e w1 ⟨rfl, b1⟩
                have s1 : w1.cell? ⟨w.heap.size, 6, none⟩ = some (.string (ba t)) := (q1.out.below b1).cell 6
                have s2 : w1.cell? ⟨w.heap.size + 1, 6, none⟩ = some (.string (ba t')) := (q2.out.below b1).cell 6
                have HB1 := Lib.hid (HB.out.trans (b1.mono HB.out.size))
                clear b1 CS HB q1 q2
                go_wp2
                go_ret
                exact ⟨rfl, HB1.out⟩
            · rw [decide_eq_false h6] at CS
              have hf : decide ((⟨k, r, c, p, i, ps, t⟩ : Vt.E) = ⟨k', r', c', p', i', ps', t'⟩) = false := decide_eq_false (fun e => by injection e; contradiction)
              rw [hf]
              clear hf h0 h1 h2 h3 h4 h6
              go_enter Tryd.func40, Tryd.ntmps40
              go_wp2_with fail
              refine CS.out.mono ?_
              rintro e w1 ⟨rfl, b1⟩
              have HB1 := Lib.hid (HB.out.trans (b1.mono HB.out.size))
              clear b1 CS HB q1 q2
              go_wp2
              go_ret
              exact ⟨rfl, HB1.out⟩
          · rw [decide_eq_false h4] at d5
            have hf : decide ((⟨k, r, c, p, i, ps, t⟩ : Vt.E) = ⟨k', r', c', p', i', ps', t'⟩) = false := decide_eq_false (fun e => by injection e; contradiction)
            rw [hf]
            clear hf CS q1 q2 h0 h1 h2 h3 h4
            go_enter Tryd.func40, Tryd.ntmps40
            go_wp2
            go_ret
            exact ⟨rfl, HB.out⟩
        · rw [decide_eq_false h3] at d4
          have hf : decide ((⟨k, r, c, p, i, ps, t⟩ : Vt.E) = ⟨k', r', c', p', i', ps', t'⟩) = false := decide_eq_false (fun e => by injection e; contradiction)
          rw [hf]
          clear hf CS q1 q2 h0 h1 h2 h3
          go_enter Tryd.func40, Tryd.ntmps40
          go_wp2
          go_ret
          exact ⟨rfl, HB.out⟩
      · rw [decide_eq_false h2] at d3
        have hf : decide ((⟨k, r, c, p, i, ps, t⟩ : Vt.E) = ⟨k', r', c', p', i', ps', t'⟩) = false := decide_eq_false (fun e => by injection e; contradiction)
        rw [hf]
        clear hf CS q1 q2 h0 h1 h2
        go_enter Tryd.func40, Tryd.ntmps40
        go_wp2
        go_ret
        exact ⟨rfl, HB.out⟩
    · rw [decide_eq_false h1] at d2
      have hf : decide ((⟨k, r, c, p, i, ps, t⟩ : Vt.E) = ⟨k', r', c', p', i', ps', t'⟩) = false := decide_eq_false (fun e => by injection e; contradiction)
      rw [hf]
      clear hf CS q1 q2 h0 h1
      go_enter Tryd.func40, Tryd.ntmps40
      go_wp2
      go_ret
      exact ⟨rfl, HB.out⟩
  · rw [decide_eq_false h0] at d1
    have hf : decide ((⟨k, r, c, p, i, ps, t⟩ : Vt.E) = ⟨k', r', c', p', i', ps', t'⟩) = false := decide_eq_false (fun e => by injection e; contradiction)
    rw [hf]
    clear hf CS q1 q2 h0
    go_enter Tryd.func40, Tryd.ntmps40
    go_wp2
    go_ret
    exact ⟨rfl, HB.out⟩

set_option maxRecDepth 100000 in
theorem isReported_any (b : UInt8) (w : World) : Calls Tryd.prog 36 #[.int .u8 (b.toNat : Int)] w fun e w' => e = .returned (.bool (Vt.reported b)) ∧ w = w' := by
  obtain ⟨R, hR⟩ : ∃ R, Vt.reported b = R := ⟨_, rfl⟩
  rw [hR]
  have HR := Lib.hid hR
  clear hR
  go_enter Tryd.func36, Tryd.ntmps36
  go_wp2
  all_goals
    have hr := HR.out
    clear HR
    go_ret
    refine ⟨ret_bool ?_, rfl⟩
    unfold Vt.reported at hr
    go_light
    try simp only [ne_eq] at *
    rw [← hr, Bool.eq_iff_iff]
    simp only [Bool.and_eq_true, decide_eq_true_eq, Bool.false_eq_true, false_iff, bne_iff_ne, ne_eq, not_and]
    try omega

set_option maxHeartbeats 1000000 in
set_option maxRecDepth 100000 in
theorem isEscape_any (l : List UInt8) (b : UInt8) (w : World) (hl : l.length ≤ 9223372036854775807) : Calls Tryd.prog 37 #[.string (ba l), .int .u8 (b.toNat : Int)] w fun e w' => e = .returned (.bool (Vt.escOk l b)) ∧ w = w' := by
  obtain ⟨R, hR⟩ : ∃ R, Vt.escOk l b = R := ⟨_, rfl⟩
  rw [hR]
  unfold Vt.escOk at hR
  have he := isEmpty_ba l
  have hs : (ba l).size = l.length := ba_size l
  have g1 : ((b.toNat : Int) == 91) = decide (b.toNat = 91) := by rw [int_eq]; exact decide_eq_decide.2 (by omega)
  have g2 : ((b.toNat : Int) == 93) = decide (b.toNat = 93) := by rw [int_eq]; exact decide_eq_decide.2 (by omega)
  generalize l.isEmpty = q0 at he hR
  generalize decide (b.toNat = 91) = q1 at g1 hR
  generalize decide (b.toNat = 93) = q2 at g2 hR
  have key : ∀ (hq : (q0 && (q1 || q2)) = true), R = false := fun hq => by rw [← hR, hq]; rfl
  by_cases h2 : l.length ≤ 2
  · have h2z : ((ba l).size : Int) ≤ 2 := by omega
    have cW := areWithin_any (ba l) 32 47 w (by omega)
    rw [ba_list] at cW
    rw [decide_eq_true h2, Bool.true_and] at hR
    have d1 : decide ((47 : Int) < (b.toNat : Int)) = decide (47 < b.toNat) := decide_eq_decide.2 (by omega)
    have d2 : decide ((b.toNat : Int) ≤ 126) = decide (b.toNat ≤ 126) := decide_eq_decide.2 (by omega)
    generalize Vt.within 32 47 l = q3 at cW hR
    have CW := Lib.hid cW
    have HR := Lib.hid hR
    have HD1 := Lib.hid d1
    have HD2 := Lib.hid d2
    clear cW hR d1 d2 key hs
    cases q0
    · cases q3
      · go_enter Tryd.func37, Tryd.ntmps37
        go_wp2_with fail
        refine CW.out.mono ?_
        rintro e w' ⟨rfl, rfl⟩
        go_wp2
        go_ret
        exact ⟨ret_bool (by rw [← HR.out]; rfl), rfl⟩
      · by_cases h47 : 47 < b.toNat
        · have h47z : (47 : Int) < (b.toNat : Int) := by omega
          go_enter Tryd.func37, Tryd.ntmps37
          go_wp2_with fail
          refine CW.out.mono ?_
          rintro e w' ⟨rfl, rfl⟩
          go_wp2
          go_ret
          exact ⟨ret_bool (by rw [← HR.out, HD2.out, decide_eq_true h47]; rfl), rfl⟩
        · have h47z : ¬ (47 : Int) < (b.toNat : Int) := by omega
          go_enter Tryd.func37, Tryd.ntmps37
          go_wp2_with fail
          refine CW.out.mono ?_
          rintro e w' ⟨rfl, rfl⟩
          go_wp2
          go_ret
          exact ⟨ret_bool (by rw [← HR.out, decide_eq_false h47]; rfl), rfl⟩
    · cases q1
      · cases q2
        · cases q3
          · go_enter Tryd.func37, Tryd.ntmps37
            go_wp2_with fail
            refine CW.out.mono ?_
            rintro e w' ⟨rfl, rfl⟩
            go_wp2
            go_ret
            exact ⟨ret_bool (by rw [← HR.out]; rfl), rfl⟩
          · by_cases h47 : 47 < b.toNat
            · have h47z : (47 : Int) < (b.toNat : Int) := by omega
              go_enter Tryd.func37, Tryd.ntmps37
              go_wp2_with fail
              refine CW.out.mono ?_
              rintro e w' ⟨rfl, rfl⟩
              go_wp2
              go_ret
              exact ⟨ret_bool (by rw [← HR.out, HD2.out, decide_eq_true h47]; rfl), rfl⟩
            · have h47z : ¬ (47 : Int) < (b.toNat : Int) := by omega
              go_enter Tryd.func37, Tryd.ntmps37
              go_wp2_with fail
              refine CW.out.mono ?_
              rintro e w' ⟨rfl, rfl⟩
              go_wp2
              go_ret
              exact ⟨ret_bool (by rw [← HR.out, decide_eq_false h47]; rfl), rfl⟩
        · go_enter Tryd.func37, Tryd.ntmps37
          go_wp2
          go_ret
          exact ⟨ret_bool (by rw [← HR.out]; rfl), rfl⟩
      · go_enter Tryd.func37, Tryd.ntmps37
        go_wp2
        go_ret
        exact ⟨ret_bool (by rw [← HR.out]; rfl), rfl⟩
  · have h2z : ¬ ((ba l).size : Int) ≤ 2 := by omega
    rw [decide_eq_false h2, Bool.false_and, Bool.and_false] at hR
    have HR := Lib.hid hR
    clear hR key hs
    cases q0
    · go_enter Tryd.func37, Tryd.ntmps37
      go_wp2
      go_ret
      exact ⟨ret_bool HR.out, rfl⟩
    · cases q1
      · cases q2
        · go_enter Tryd.func37, Tryd.ntmps37
          go_wp2
          go_ret
          exact ⟨ret_bool HR.out, rfl⟩
        · go_enter Tryd.func37, Tryd.ntmps37
          go_wp2
          go_ret
          exact ⟨ret_bool HR.out, rfl⟩
      · go_enter Tryd.func37, Tryd.ntmps37
        go_wp2
        go_ret
        exact ⟨ret_bool HR.out, rfl⟩

set_option maxHeartbeats 1000000 in
set_option maxRecDepth 100000 in
theorem isSequence_any (e : Vt.E) (A : Option Addr) (n c : Nat) (w : World) (hX : Ci.Nums w w.heap.size A n e.ps) (hn : n ≤ 9223372036854775807) (hi : e.i.length ≤ 9223372036854775807) (hP : Ci.Pw w) (hr : ∀ z ∈ e.ps, -9223372036854775808 ≤ z ∧ z ≤ 9223372036854775807) :
    Calls Tryd.prog 38 #[.agg #[.int .i64 e.k, .int .i32 e.r, .int .u8 (e.c.toNat : Int), .int .u8 (e.p.toNat : Int), .string (ba e.i), .slice A n c, .string (ba e.t)]] w fun x w' => x = .returned (.bool (Vt.seqOk e.p e.ps e.i e.c)) ∧ Below w.heap.size w w' := by
  obtain ⟨k, r, cc, p, i, ps, t⟩ := e
  simp only at hX hi hr ⊢
  have hb := (Below.refl w.heap.size w).alloc (Nat.le_refl _) (.cells #[.int .i64 k, .int .i32 r, .int .u8 (cc.toNat : Int), .int .u8 (p.toNat : Int), .string (ba i), .slice A n c, .string (ba t)] 33)
  have hk := Ek.laid w #[.int .i64 k, .int .i32 r, .int .u8 (cc.toNat : Int), .int .u8 (p.toNat : Int), .string (ba i), .slice A n c, .string (ba t)]
  obtain ⟨R, hR⟩ : ∃ R, Vt.seqOk p ps i cc = R := ⟨_, rfl⟩
  rw [hR]
  unfold Vt.seqOk at hR
  obtain ⟨l, er, hf⟩ : ∃ l er, Cp.fmt p ps i = (l, er) := ⟨_, _, rfl⟩
  rw [hf] at hR
  simp only at hR
  have CF := Lib.hid (Ci.format_wide p A n c w.heap.size ps (ba i) _ hb.size (hX.below hb (Nat.le_refl _)) hn (by rw [ba_size]; exact hi) (hP.below hb) hr (l := l) (er := er) (by rw [ba_list]; exact hf))
  have d0 : (er == 0) = decide (er = 0) := int_eq er 0
  have d1 : decide ((63 : Int) < (cc.toNat : Int)) = decide (63 < cc.toNat) := decide_eq_decide.2 (by omega)
  have d2 : decide ((cc.toNat : Int) ≤ 126) = decide (cc.toNat ≤ 126) := decide_eq_decide.2 (by omega)
  have HR := Lib.hid hR
  have HB := Lib.hid hb
  have HK := Lib.hid hk
  have HD2 := Lib.hid d2
  clear hR hb hk d1 d2 hX hf hP
  by_cases h0 : er = 0
  · rw [decide_eq_true h0] at d0 HR
    clear h0
    by_cases h63 : 63 < cc.toNat
    · have h63z : (63 : Int) < (cc.toNat : Int) := by omega
      go_enter Tryd.func38, Tryd.ntmps38
      go_wp2_with fail
      refine CF.out.mono ?_
      rintro e w1 ⟨x, rfl, hx, b1⟩
      have s2 : w1.cell? ⟨w.heap.size, 2, none⟩ = some (.int .u8 (cc.toNat : Int)) := (HK.out.below b1).cell 2
      have HB1 := Lib.hid (HB.out.trans (b1.mono HB.out.size))
      clear b1 CF HB HK hx
      go_wp2
      go_ret
      exact ⟨ret_bool (by rw [← HR.out, HD2.out, decide_eq_true h63]; rfl), HB1.out⟩
    · have h63z : ¬ (63 : Int) < (cc.toNat : Int) := by omega
      go_enter Tryd.func38, Tryd.ntmps38
      go_wp2_with fail
      refine CF.out.mono ?_
      rintro e w1 ⟨x, rfl, hx, b1⟩
      have s2 : w1.cell? ⟨w.heap.size, 2, none⟩ = some (.int .u8 (cc.toNat : Int)) := (HK.out.below b1).cell 2
      have HB1 := Lib.hid (HB.out.trans (b1.mono HB.out.size))
      clear b1 CF HB HK hx
      go_wp2
      go_ret
      exact ⟨ret_bool (by rw [← HR.out, decide_eq_false h63]; rfl), HB1.out⟩
  · rw [decide_eq_false h0] at d0 HR
    clear h0
    go_enter Tryd.func38, Tryd.ntmps38
    go_wp2_with fail
    refine CF.out.mono ?_
    rintro e w1 ⟨x, rfl, hx, b1⟩
    have HB1 := Lib.hid (HB.out.trans (b1.mono HB.out.size))
    clear b1 CF HB HK hx
    go_wp2
    go_ret
    exact ⟨ret_bool (by rw [← HR.out]; rfl), HB1.out⟩

end Go.Proofs.YtckknodckiljkaaDoor
