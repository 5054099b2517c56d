/-
  What Apply returns, in one word; what colorNumbers and Params of attr return.
-/
import Derived.Test.YtdeicbciiabdfaaDoorApply
namespace Go.Proofs.YtdeicbciiabdfaaDoor
open Go.RowKit

/-- A rendition as a value. -/
abbrev av (a : At.R) : Value := .agg #[.int .i64 a.f, .int .i64 a.b, .int .i64 a.g]

theorem apply_any (A : Option Addr) (n c B : Nat) (xs : List Int) (a : At.R) (w : World) (hB : B ≤ w.heap.size) (hX : Nums w B A n xs) (hnil : A = none → n = 0 ∧ c = 0) (hn : n ≤ 1000) (hr : ∀ z ∈ xs, z ≤ 9223372036854775807) (hT : Tb w) :
    Calls Tryd.prog 7 #[av a, .slice A n c] w fun e w' => e = .returned (av (At.apply a xs)) ∧ Below w.heap.size w w' := by
  have hl := hX.1
  by_cases h0 : n = 0
  · subst h0
    have e : At.apply a xs = At.dflt := by unfold At.apply; rw [if_pos hl]
    rw [e]
    exact apply_empty A c a w
  · have e : At.apply a xs = At.run a (At.nn xs) := by unfold At.apply; rw [if_neg (by omega)]
    rw [e]
    exact apply_some A n c B xs a w hB hX hnil (by omega) hn hr hT

theorem Out.made (w : World) (zs : List Int) (hl : zs.length ≤ 1000) : Out w (w.alloc (.cells (zs.map (Value.int .i64)).toArray 3)) (.slice (some ⟨w.heap.size, 0, none⟩) zs.length zs.length) zs := by
  refine ⟨⟨by simp, .inr ⟨w.heap.size, zs.length, (zs.map (Value.int .i64)).toArray, rfl, Nat.le_refl _, heap_alloc_new w _, Nat.le_refl _, by unfold maxLen; omega, by simp, ?_⟩⟩, (Below.refl _ w).alloc (Nat.le_refl _) _⟩
  simp [List.take_of_length_le]

set_option maxHeartbeats 400000 in
set_option maxRecDepth 100000 in
theorem colorNumbers_any (c o : Int) (w : World) (h0 : -1 ≤ c) (h1 : c ≤ 255) (h2 : 0 ≤ o) (h3 : o ≤ 10) :
    Calls Tryd.prog 18 #[.int .i64 c, .int .i64 o] w fun e w' => ∃ A n cap, e = .returned (.slice A n cap) ∧ Gives w w' A n cap (At.cn c o) := by
  obtain ⟨zs, hz⟩ : ∃ zs, At.cn c o = zs := ⟨_, rfl⟩
  rw [hz]
  unfold At.cn at hz
  by_cases a1 : c ≤ -1
  · rw [if_pos a1] at hz
    subst hz
    go_enter Tryd.func18, Tryd.ntmps18
    go_wp2
    go_ret
    exact ⟨none, 0, 0, rfl, (Out.start w).gives⟩
  · rw [if_neg a1] at hz
    by_cases a2 : c < 8
    · rw [if_pos a2] at hz
      subst hz
      go_enter Tryd.func18, Tryd.ntmps18
      go_wp2
      go_ret
      exact ⟨_, _, _, rfl, (Out.made w [30 + o + c] (by simp)).gives⟩
    · rw [if_neg a2] at hz
      by_cases a3 : c < 16
      · rw [if_pos a3] at hz
        subst hz
        go_enter Tryd.func18, Tryd.ntmps18
        go_wp2
        go_ret
        exact ⟨_, _, _, rfl, (Out.made w [90 + o + c - 8] (by simp)).gives⟩
      · rw [if_neg a3] at hz
        subst hz
        go_enter Tryd.func18, Tryd.ntmps18
        go_wp2
        go_ret
        exact ⟨_, _, _, rfl, (Out.made w [38 + o, 5, c] (by simp)).gives⟩

/-- append of one number that was just laid in block k. -/
theorem wpList_push_at {ops : Array Oper} {rest : List Oper} {o : Oper} {a : Act} {Q : Exit → Act → World → Prop} (hgd : o.guard = none) (s x : Operand)
    (ho : o.op = .call { callee := .builtin .append, args := #[s, x], argTypes := #[28, 28] })
    (w0 w : World) (k : Nat) (hk : w.heap.size = k) (v : Value) (xs : List Int) (z : Int) (hs : a.eval s = v) (hx : a.eval x = .slice (some ⟨k, 0, none⟩) 1 1) (hout : Out w0 w v xs) (hl : xs.length ≤ 100000)
    (h : ∀ v' w1, Out w0 w1 v' (xs ++ [z]) → wpList Tryd.prog ops Q rest (a.put o.dst v') w1) : wpList Tryd.prog ops Q (o :: rest) a (w.alloc (.cells #[.int .i64 z] 3)) := by
  subst hk
  exact wpList_push hgd s x ho w0 w v xs z hs hx hout hl h

/-- The numbers of the first k flags. -/
def codesK (g : Int) (k : Nat) : List Int := ((At.tb.take k).filter fun t => bits .and .i64 g t.1 != 0).map fun t => t.2.1
theorem codesK_step (g : Int) (k : Nat) (hk : k < 8) : codesK g (k + 1) = codesK g k ++ if (bits .and .i64 g (At.tb.getD k (0, 0, 0)).1 != 0) = true then [(At.tb.getD k (0, 0, 0)).2.1] else [] := by
  have hl : k < At.tb.length := hk
  unfold codesK
  rw [List.take_succ_eq_append_getElem hl, List.filter_append, List.map_append]
  have e : At.tb[k] = At.tb.getD k (0, 0, 0) := by simp [List.getD_eq_getElem?_getD, hl]
  rw [e]
  generalize At.tb.getD k (0, 0, 0) = t
  cases h : (bits .and .i64 g t.1 != 0) <;> simp [List.filter, h]
theorem codesK_len (g : Int) (k : Nat) : (codesK g k).length ≤ k := by
  unfold codesK
  rw [List.length_map]
  refine Nat.le_trans (List.length_filter_le _ _) ?_
  rw [List.length_take]
  omega
theorem cn_len (c o : Int) : (At.cn c o).length ≤ 3 := by
  unfold At.cn
  split
  · simp
  · split
    · simp
    · split <;> simp
theorem codesK_all (g : Int) : codesK g 8 = At.codes g := rfl

set_option maxHeartbeats 2000000 in
set_option maxRecDepth 100000 in
theorem params_any (a : At.R) (w : World) (hT : Tb w) (ha : At.ok a) :
    Calls Tryd.prog 12 #[av a] w fun e w' => ∃ A n cap, e = .returned (.slice A n cap) ∧ Gives w w' A n cap (At.params a) := by
  obtain ⟨f, b, g⟩ := a
  have hw := hT.lt
  obtain ⟨W1, hW1⟩ : ∃ W1, w.alloc (.cells #[.int .i64 f, .int .i64 b, .int .i64 g] 23) = W1 := ⟨_, rfl⟩
  have hrec : Rec W1 w.heap.size ⟨f, b, g⟩ := hW1 ▸ Rec.laid w ⟨f, b, g⟩
  have hb1 : Below w.heap.size w W1 := hW1 ▸ (Below.refl _ w).alloc (Nat.le_refl _) _
  have ho1 : Out W1 (W1.alloc (.cells #[.int .i64 0] 3)) (.slice (some ⟨W1.heap.size, 0, none⟩) 1 1) [0] := Out.made W1 [0] (by decide)
  have hT1 := (hT.below hb1 (Nat.le_refl _)).below ho1.2 (Nat.le_refl _)
  obtain ⟨tt, fr, hg1⟩ := hT1
  have hi0 := tcs_at
  have hs : tcs.size = 24 := rfl
  generalize tcs = tc at hg1 hi0 hs
  have HI := Lib.hid hi0
  have HO := Lib.hid ho1
  have HREC := Lib.hid hrec
  have HB := Lib.hid hb1
  have HA := Lib.hid ha
  clear hi0 ho1 hrec hb1 ha
  go_enter Tryd.func12, Tryd.ntmps12
  go_wp2_with (refine wpList_load_row rfl 44 _ rfl 0 rfl tt _ fr _ hg1 Tryd.underlying44 rfl (by rw [hs]; kernel_rfl) ?_)
  clear hg1 hs hW1
  go_loopg [3, 5, 8] 8 (fun gg s3 _ s8 wr => ∃ (k : Nat), k ≤ 8 ∧ 8 - k ≤ gg ∧ s8 = .int .i64 k ∧ Aside (Out W1 wr s3 (0 :: codesK g k)))
  case atStart => exact ⟨0, by omega, by omega, rfl, HO.out⟩
  case round =>
    obtain ⟨k, hk, hg, rfl, OW⟩ := hrel
    have r2 := HREC.out.below OW.out.2
    by_cases hk8 : k < 8
    · have hz : (k : Int) < 8 := by omega
      have hz0 : (0 : Int) ≤ (k : Int) := by omega
      have hi := HI.out k hk8
      have hst := Lib.hid (codesK_step g k hk8)
      obtain ⟨y, hy⟩ : ∃ y, At.tb.getD k (0, 0, 0) = y := ⟨_, rfl⟩
      rw [hy] at hi hst
      clear hy
      obtain ⟨x, b', c'⟩ := y
      have c2 := (r2.alloc (.cells #[.int .i64 x, .int .i64 b', .int .i64 c'] 43)).c2
      have hne : w.heap.size ≠ wr.heap.size := by have := r2.lt; omega
      have HA2 := Lib.hid (OW.out.alloc (.cells #[.int .i64 x, .int .i64 b', .int .i64 c'] 43))
      have hlen : (0 :: codesK g k).length ≤ 100000 := by have := codesK_len g k; simp; omega
      have hk2 : (wr.alloc (.cells #[.int .i64 x, .int .i64 b', .int .i64 c'] 43)).heap.size = wr.heap.size + 1 := by simp
      clear r2
      cases hq : (bits .and .i64 g x != 0)
      · rw [hq] at hst
        go_wp2
        go_roundg (8 - (k + 1))
        case measure => omega
        case rel =>
          refine ⟨k + 1, by omega, by omega, by go_num, ?_⟩
          unfold Aside
          rw [hst.out]
          simpa using HA2.out
      · rw [hq] at hst
        go_wp2_with (at_builtin; refine wpList_push_at rfl (.tmp 17) (.tmp 20) rfl W1 _ _ hk2 _ (0 :: codesK g k) b' rfl rfl HA2.out hlen ?_; intro v4 w4 hout4)
        have HO4 := Lib.hid hout4
        clear hout4
        go_roundg (8 - (k + 1))
        case measure => omega
        case rel =>
          refine ⟨k + 1, by omega, by omega, by go_num, ?_⟩
          unfold Aside
          rw [hst.out]
          simpa using HO4.out
    · have hz : ¬ (k : Int) < 8 := by omega
      obtain rfl : k = 8 := by omega
      have cF := fun W => colorNumbers_any f 0 W HA.out.1.1 HA.out.1.2 (by decide) (by decide)
      have cB := fun W => colorNumbers_any b 10 W HA.out.2.1.1 HA.out.2.1.2 (by decide) (by decide)
      have r0 := r2.c0
      have l1 : (0 :: codesK g 8).length + (At.cn f 0).length ≤ 100000 := by
        have := codesK_len g 8
        have := cn_len f 0
        simp only [List.length_cons]
        omega
      have l2 : (0 :: codesK g 8 ++ At.cn f 0).length + (At.cn b 10).length ≤ 100000 := by
        have := cn_len b 10
        rw [List.length_append]
        simp only [List.length_cons] at l1 ⊢
        have := codesK_len g 8
        have := cn_len f 0
        omega
      have hfin : Hid (At.params ⟨f, b, g⟩ = 0 :: codesK g 8 ++ At.cn f 0 ++ At.cn b 10) := Lib.hid rfl
      generalize At.cn f 0 = fs at cF l1 l2 hfin
      generalize At.cn b 10 = bs at cB l2 hfin
      generalize 0 :: codesK g 8 = cs at l1 l2 hfin OW
      go_wp2_with fail
      refine (cF wr).mono ?_
      rintro e w2 ⟨A2, n2, c2, rfl, g2⟩
      have O2 := Lib.hid (OW.out.below g2.2.2)
      have N2 := Lib.hid g2.1
      have K2 := g2.2.1
      clear g2 r0 r2
      go_wp2_with (first | (go_at_call 18; fail) | (at_builtin; refine wpList_join rfl (.tmp 23) (.tmp 26) rfl W1 _ _ cs fs A2 n2 c2 _ rfl rfl O2.out N2.out K2 l1 ?_; intro v3 w3 hout3; have r1 := (HREC.out.below hout3.2).c1; have O3 := Lib.hid hout3; clear hout3))
      refine (cB w3).mono ?_
      rintro e w4 ⟨A4, n4, c4, rfl, g4⟩
      have O4 := Lib.hid (O3.out.below g4.2.2)
      have N4 := Lib.hid g4.1
      have K4 := g4.2.1
      clear g4 r1
      go_wp2_with (at_builtin; refine wpList_join rfl (.tmp 28) (.tmp 31) rfl W1 _ _ (cs ++ fs) bs A4 n4 c4 _ rfl rfl O4.out N4.out K4 l2 ?_; intro v5 w5 hout5; have O5 := Lib.hid hout5; clear hout5)
      go_ret
      obtain ⟨A5, c5, e5⟩ := O5.out.slice
      subst e5
      have g5 := O5.out.gives
      exact ⟨A5, _, c5, rfl, by rw [hfin.out]; exact ⟨g5.1, g5.2.1, HB.out.trans (g5.2.2.mono HB.out.size)⟩⟩

end Go.Proofs.YtdeicbciiabdfaaDoor
