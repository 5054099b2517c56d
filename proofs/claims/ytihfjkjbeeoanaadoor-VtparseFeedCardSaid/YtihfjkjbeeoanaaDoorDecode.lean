/-
  What utf8stream.Decode returns, for every two strings of at most 1000 bytes together: the numbers and the open bytes of the plain decoder.
-/
import Derived.Test.YtihfjkjbeeoanaaDoorOut
import Derived.Test.YtihfjkjbeeoanaaDoorParts
import Derived.Test.YtihfjkjbeeoanaaDoorShelf
import Derived.Deep.DeepFit
import Derived.Deep.DeepMust
import Derived.Deep.DeepCutAuto
namespace Go.Proofs.YtihfjkjbeeoanaaDoor
open Go.RowKit Go.Shelf

/-- strings.Clone: the same bytes; nothing that was there has turned. -/
theorem clone_any (s : ByteArray) (w : World) (hs : s.size ≤ 1000) :
    Calls Tryd.prog 33 #[.string s] w fun e w' => e = .returned (.string s) ∧ Below w.heap.size w w' := by
  go_enter Tryd.func33, Tryd.ntmps33
  go_wp2_with (go_at_call 45; refine (Tryd.stringslite_Clone _ _ (by omega)).mono ?_; rintro e w' ⟨rfl, hb⟩)
  go_ret
  exact ⟨rfl, hb⟩

/-- What Decode leaves for the bytes l. -/
def Decoded (w : World) (l : List UInt8) (e : Ending) (w' : World) : Prop :=
  ∃ A cap, e = .returned (.tuple #[.slice A (U8.run l).1.length cap, .string ⟨(U8.run l).2.toArray⟩]) ∧ Out w w' (.slice A (U8.run l).1.length cap) (U8.run l).1

/-- The loop's book-keeping behind a name. -/
def AtStart (s : ByteArray) (k : Nat) (st : Value) : Prop := st = .int .i64 ((U8.startAt s k : Nat) : Int)

/-- Behind the first test: which bytes are open, where they begin, and what the byte b makes of them. -/
theorem round_facts (s : ByteArray) (k a : Nat) (q : List UInt8) (o : List Int) (b : UInt8) (o1 : List Int) (q1 : List UInt8) (a1 : Nat) (G : Bool) (hlt : k < s.size) (hb : s[k] = b) (haq : a + q.length = k) (hOp : U8.Opened q)
    (hext : (s.extract a k).data.toList = q) (hset : U8.settle (o, q) b = if G then (o ++ [65533], []) else (o, q)) (hst1 : U8.settle (o, q) b = (o1, q1)) (ha1 : (if G then k else a) = a1)
    (hnext : (U8.outAt s (k + 1), U8.openAt s (k + 1)) = U8.step (o, q) b) :
    ∃ h1 : a1 ≤ k, (s[a1]'(Nat.lt_of_le_of_lt h1 hlt)).toNat = U8.first (q1 ++ [b]) ∧ U8.first (q1 ++ [b]) < 256 ∧ o1.length ≤ o.length + 1 ∧
      (a1 + q1.length = k ∧ (s.extract a1 (k + 1)).data.toList = q1 ++ [b] ∧ (U8.outAt s (k + 1), U8.openAt s (k + 1)) = U8.push (o1, q1) b ∧
        (U8.seqLen (U8.first (q1 ++ [b])) ≠ 0 → U8.Pre (q1 ++ [b]) ∧ (q1 ++ [b]).length ≤ U8.seqLen (U8.first (q1 ++ [b])))) := by
  have hpp := U8.pre_push (st := (o, q)) b hOp
  have hE : a1 + q1.length = k ∧ (s.extract a1 (k + 1)).data.toList = q1 ++ [b] ∧ o1.length ≤ o.length + 1 := by
    cases G
    · have e1 : a = a1 := ha1
      have e2 : (o, q) = (o1, q1) := by rw [← hst1, hset]; rfl
      injection e2 with e2 e3
      subst e1 e2 e3
      exact ⟨haq, by rw [U8.extract_next s k a hlt (by omega), hext, hb], by omega⟩
    · have e1 : k = a1 := ha1
      have e2 : (o ++ [65533], []) = (o1, q1) := by rw [← hst1, hset]; rfl
      injection e2 with e2 e3
      subst e1 e2 e3
      refine ⟨rfl, ?_, by simp⟩
      rw [U8.extract_next s k k hlt (Nat.le_refl _), hb, Lib.extract_data, Nat.sub_self, List.take_zero]
  have hf := U8.first_extract s a1 (k + 1) (by omega) (by omega)
  rw [hE.2.1] at hf
  rw [hst1] at hpp
  refine ⟨by omega, hf.symm, ?_, hE.2.2, hE.1, hE.2.1, ?_, hpp⟩
  · rw [hf]; exact UInt8.toNat_lt _
  · rw [hnext, U8.step, hst1]

/-- What the round leaves, by the length of the sequence. -/
theorem end_zero {s : ByteArray} {k a1 n : Nat} {q1 : List UInt8} {o1 : List Int} {b : UInt8} (R : a1 + q1.length = k ∧ (s.extract a1 (k + 1)).data.toList = q1 ++ [b] ∧ (U8.outAt s (k + 1), U8.openAt s (k + 1)) = U8.push (o1, q1) b ∧ (n ≠ 0 → U8.Pre (q1 ++ [b]) ∧ (q1 ++ [b]).length ≤ n))
    (hf : U8.seqLen (U8.first (q1 ++ [b])) = n) (hn : n = 0) : U8.outAt s (k + 1) = o1 ++ [65533] ∧ U8.openAt s (k + 1) = [] := by
  have e := R.2.2.1
  unfold U8.push at e
  rw [if_pos (hf.trans hn)] at e
  injection e with e1 e2
  exact ⟨e1, e2⟩
theorem end_whole {s : ByteArray} {k a1 n : Nat} {q1 : List UInt8} {o1 : List Int} {b : UInt8} (R : a1 + q1.length = k ∧ (s.extract a1 (k + 1)).data.toList = q1 ++ [b] ∧ (U8.outAt s (k + 1), U8.openAt s (k + 1)) = U8.push (o1, q1) b ∧ (n ≠ 0 → U8.Pre (q1 ++ [b]) ∧ (q1 ++ [b]).length ≤ n))
    (hf : U8.seqLen (U8.first (q1 ++ [b])) = n) (hn0 : n ≠ 0) (hn : n = q1.length + 1) : U8.outAt s (k + 1) = o1 ++ [((U8.val (q1 ++ [b]) : Nat) : Int)] ∧ U8.openAt s (k + 1) = [] := by
  have e := R.2.2.1
  unfold U8.push at e
  rw [if_neg (by rw [hf]; exact hn0), if_pos (by rw [hf, hn]; simp)] at e
  injection e with e1 e2
  exact ⟨e1, e2⟩
theorem end_open {s : ByteArray} {k a1 n : Nat} {q1 : List UInt8} {o1 : List Int} {b : UInt8} (R : a1 + q1.length = k ∧ (s.extract a1 (k + 1)).data.toList = q1 ++ [b] ∧ (U8.outAt s (k + 1), U8.openAt s (k + 1)) = U8.push (o1, q1) b ∧ (n ≠ 0 → U8.Pre (q1 ++ [b]) ∧ (q1 ++ [b]).length ≤ n))
    (hf : U8.seqLen (U8.first (q1 ++ [b])) = n) (hn0 : n ≠ 0) (hn : n ≠ q1.length + 1) : U8.outAt s (k + 1) = o1 ∧ U8.startAt s (k + 1) = a1 := by
  have e := R.2.2.1
  unfold U8.push at e
  rw [if_neg (by rw [hf]; exact hn0), if_neg (by rw [hf]; simpa using hn)] at e
  injection e with e1 e2
  refine ⟨e1, ?_⟩
  unfold U8.startAt
  rw [e2]
  have := R.1
  simp; omega

/-- utf8.DecodeRuneInString at the bytes of a whole sequence. -/
theorem rune_any (t : ByteArray) (w : World) (l : List UInt8) (hl : t.data.toList = l) (hP : U8.Pre l) (he : U8.seqLen (U8.first l) = l.length) (hT : Lib.Utf8Tabs 0 1 w) :
    Calls Tryd.prog 32 #[.string t] w fun e w' => ∃ z : Int, e = .returned (.tuple #[.int .i32 ((U8.val l : Nat) : Int), .int .i64 z]) ∧ Below w.heap.size w w' := by
  refine (Tryd.utf8_DecodeRuneInString t w hT).mono fun e w' ⟨h1, h2⟩ => ⟨(Lib.decodeGo t).2, ?_, h2⟩
  rw [h1, U8.decode_whole t (by rw [hl]; exact hP) (by rw [hl]; exact he), hl]

set_option maxHeartbeats 1000000 in
set_option maxRecDepth 100000 in
theorem decode_any (p c : ByteArray) (w : World) (hsz : p.size + c.size ≤ 1000) (hT : Lib.Utf8Tabs 0 1 w) :
    Calls Tryd.prog 18 #[.string p, .string c] w (Decoded w (p.data.toList ++ c.data.toList)) := by
  obtain ⟨s, hs⟩ : ∃ s, p ++ c = s := ⟨_, rfl⟩
  have hl : p.data.toList ++ c.data.toList = s.data.toList := by rw [← hs]; simp [ByteArray.data_append]
  have hss : s.size ≤ 1000 := by rw [← hs, ByteArray.size_append]; exact hsz
  have hsi : (p.size : Int) + (c.size : Int) = (s.size : Int) := by rw [← hs, ByteArray.size_append]; omega
  rw [hl]
  clear hl
  go_enter Tryd.func18, Tryd.ntmps18
  go_wp2
  clear hs hsi hsz
  go_loopg [7, 8, 18] (s.size + 1) (fun gk v st i wr => ∃ k : Nat, gk + k = s.size + 1 ∧ k ≤ s.size ∧ i = .int .i64 (k : Int) ∧ AtStart s k st ∧ Out w wr v (U8.outAt s k))
  case atStart => exact ⟨0, by omega, Nat.zero_le _, rfl, rfl, Out.start w⟩
  case round =>
    obtain ⟨k, hg, hks, rfl, hst, hout⟩ := hrel
    unfold AtStart at hst
    subst hst
    by_cases hlt : k < s.size
    · obtain ⟨g', rfl⟩ : ∃ g', gk = g' + 1 := ⟨gk - 1, by omega⟩
      have hz : (k : Int) < (s.size : Int) := by omega
      obtain ⟨b, hb⟩ : ∃ b, s[k] = b := ⟨_, rfl⟩
      obtain ⟨a, ha⟩ : ∃ a, U8.startAt s k = a := ⟨_, rfl⟩
      rw [ha]
      have hak : a ≤ k := by rw [← ha]; exact U8.start_le s k
      obtain ⟨o, ho⟩ : ∃ o, U8.outAt s k = o := ⟨_, rfl⟩
      obtain ⟨q, hq⟩ : ∃ q, U8.openAt s k = q := ⟨_, rfl⟩
      rw [ho] at hout
      have hoz : o.length ≤ 1000 := by rw [← ho]; have := U8.out_le s k hks; omega
      have hqk : q.length ≤ k := by rw [← hq]; exact U8.open_le s k hks
      have haq : Hid (a + q.length = k) := Lib.hid (by rw [← ha, ← hq]; unfold U8.startAt; have := U8.open_le s k hks; omega)
      have hOp : Hid (U8.Opened q) := Lib.hid (by rw [← hq]; exact U8.opened_at s k)
      have hext : Hid ((s.extract a k).data.toList = q) := Lib.hid (by rw [← ha, ← hq]; exact U8.extract_open s k hks)
      have hnext : Hid ((U8.outAt s (k + 1), U8.openAt s (k + 1)) = U8.step (o, q) b) := Lib.hid (by rw [← ho, ← hq, ← hb]; exact U8.step_at s k hlt)
      clear ho hq ha
      obtain ⟨G, hG⟩ : ∃ G : Bool, (decide (q ≠ []) && !U8.mayF q b.toNat) = G := ⟨_, rfl⟩
      have HG := Lib.hid hG
      clear hG
      have hbl : b.toNat < 256 := b.toNat_lt
      go_upto_region 7 with fail
      go_cut [34] (fun t wx => t = .bool G ∧ ∃ m, wx = wr.drewN m)
      case first =>
        by_cases hak2 : a < k
        · have hakz : (a : Int) < (k : Int) := by omega
          have hne : q ≠ [] := fun e => by have := haq.out; rw [e] at this; simp at this; omega
          obtain ⟨t, ht⟩ : ∃ t, s.extract a k = t := ⟨_, rfl⟩
          have htq : Hid (t.data.toList = q) := Lib.hid (by rw [← ht]; exact hext.out)
          have hts : 0 < t.size ∧ t.size ≤ 1000 := by
            have e := htq.out
            have h1 : t.size = q.length := by rw [Lib.size_eq, e]
            have h2 : 0 < q.length := List.length_pos_iff.2 hne
            omega
          have hGm : Hid (G = !U8.mayF t.data.toList b.toNat) := Lib.hid (by rw [← HG.out, htq.out]; simp [hne])
          clear hext hout
          go_quiet ((go_at_call 30; exact Calls.quiet_of_same (mayF_any t b.toNat hts.1 hbl hts.2 _)))
          go_wp2_with fail
          go_meet
          exact ⟨by rw [hGm.out], nq, rfl⟩
        · have hakd : decide ((a : Int) < (k : Int)) = false := by simp; omega
          have hGf : Hid (G = false) := Lib.hid (by
            have h1 := haq.out
            have h2 : q = [] := List.eq_nil_of_length_eq_zero (by omega)
            rw [← HG.out, h2]; rfl)
          clear hext hout
          go_quiet (fail)
          go_wp2_with fail
          go_meet
          exact ⟨by rw [hGf.out], nq, rfl⟩
      case rest =>
        obtain ⟨rfl, m, rfl⟩ := hcut
        have hout1 := hout.drewN m
        clear hout
        generalize wr.drewN m = wd at hout1 ⊢
        go_upto_if 34 with fail
        have hset : Hid (U8.settle (o, q) b = if G then (o ++ [65533], []) else (o, q)) := Lib.hid (by
          rw [← HG.out]
          unfold U8.settle
          by_cases h1 : q = []
          · simp [h1]
          · cases U8.mayF q b.toNat <;> simp [h1])
        go_cut [7, 8] (fun v st wx => st = .int .i64 ((if G then k else a : Nat) : Int) ∧ Out w wx v (U8.settle (o, q) b).1)
        case first =>
          cases G
          · go_wp2
            go_meet
            exact ⟨rfl, by rw [hset.out]; exact hout1⟩
          · go_wp2_with (at_builtin; refine wpList_push rfl (.tmp 35) (.tmp 36) rfl w wd _ o 65533 rfl rfl hout1 (by omega) ?_; intro v1 w1 hout2)
            go_meet
            exact ⟨rfl, by rw [hset.out]; exact hout2⟩
        case rest =>
          obtain ⟨rfl, hout2⟩ := hcut
          clear hout1
          obtain ⟨o1, q1, hst1⟩ : ∃ o1 q1, U8.settle (o, q) b = (o1, q1) := ⟨_, _, rfl⟩
          obtain ⟨a1, ha1⟩ : ∃ a1, (if G then k else a) = a1 := ⟨_, rfl⟩
          rw [hst1] at hout2
          have hout3 : Out w wc u7 o1 := hout2
          clear hout2
          rw [ha1]
          have R := round_facts s k a q o b o1 q1 a1 G hlt hb haq.out hOp.out hext.out hset.out hst1 ha1 hnext.out
          obtain ⟨n, hn⟩ : ∃ n, U8.seqLen (U8.first (q1 ++ [b])) = n := ⟨_, rfl⟩
          obtain ⟨f, hf⟩ : ∃ f, U8.first (q1 ++ [b]) = f := ⟨_, rfl⟩
          rw [hf] at hn
          rw [hf, hn] at R
          obtain ⟨ha1k, hs1, hfl, ho1, R⟩ := R
          have HR := Lib.hid R
          have cN : ∀ W, Calls Tryd.prog 31 #[.int .u8 (f : Int)] W fun e w' => e = .returned (.int .i64 (n : Int)) ∧ W = w' := fun W => by rw [← hn]; exact (seqLen_any f hfl W).mono fun _ _ h => ⟨h.1, h.2.symm⟩
          have HN := Lib.hid cN
          have HF : Hid (U8.seqLen (U8.first (q1 ++ [b])) = n) := Lib.hid (by rw [hf]; exact hn)
          clear R cN hn hf hset hst1 ha1 hnext hext hOp haq HG
          have ha1z : (a1 : Int) < (s.size : Int) := by omega
          have ho1l : o1.length ≤ 2000 := by omega
          go_upto_if 44 with (go_at_call 31; refine (HN.out _).mono ?_; rintro e w' ⟨rfl, rfl⟩)
          by_cases hn0 : n = 0
          · have hb0 : ((n : Int) == 0) = true := by simp [hn0]
            clear HN
            go_wp2_with (at_builtin; refine wpList_push rfl (.tmp 45) (.tmp 46) rfl w wc _ o1 65533 rfl rfl hout3 (by omega) ?_; intro v1 w1 hout4)
            go_roundg g'
            case measure => omega
            case rel =>
              have e := end_zero HR.out HF.out hn0
              exact ⟨k + 1, by omega, by omega, by go_num, by rw [AtStart, U8.startAt, e.2]; go_num, by rw [e.1]; exact hout4⟩
          · have hb0 : ((n : Int) == 0) = false := by simp; omega
            have hP := HR.out.2.2.2 hn0
            by_cases hn1 : n = q1.length + 1
            · have hb1 : ((n : Int) == (k : Int) + 1 - (a1 : Int)) = true := by
                have := HR.out.1
                simp; omega
              obtain ⟨t, ht⟩ : ∃ t, s.extract a1 (k + 1) = t := ⟨_, rfl⟩
              have cD : Calls Tryd.prog 32 #[.string t] wc _ := rune_any t wc (q1 ++ [b]) (by rw [← ht]; exact HR.out.2.1) hP.1 (by rw [HF.out, hn1]; simp) (Utf8Tabs_below hT hout3.2)
              have HD := Lib.hid cD
              have hk1 : (k : Int) + 1 ≤ (s.size : Int) := by omega
              have hkn : ((k : Int) + 1).toNat = k + 1 := by omega
              clear HN hP cD
              go_wp2_with (first | (go_at_call 32; refine HD.out.mono ?_; rintro e w1 ⟨z, rfl, hbw⟩; have hout4 := hout3.below hbw) | (at_builtin; refine wpList_push rfl (.tmp 65) (.tmp 67) rfl w _ _ o1 _ rfl rfl hout4 (by omega) ?_; intro v1 w2 hout5))
              go_roundg g'
              case measure => omega
              case rel =>
                have e := end_whole HR.out HF.out hn0 hn1
                exact ⟨k + 1, by omega, by omega, by go_num, by rw [AtStart, U8.startAt, e.2]; go_num, by rw [e.1]; exact hout5⟩
            · have hb1 : ((n : Int) == (k : Int) + 1 - (a1 : Int)) = false := by
                have := HR.out.1
                simp; omega
              clear HN hP
              go_wp2
              go_roundg g'
              case measure => omega
              case rel =>
                have e := end_open HR.out HF.out hn0 hn1
                exact ⟨k + 1, by omega, by omega, by go_num, by rw [AtStart, e.2], by rw [e.1]; exact hout3⟩
    · have hkz : ¬ (k : Int) < (s.size : Int) := by omega
      have hkk : k = s.size := by omega
      obtain ⟨a, ha⟩ : ∃ a, U8.startAt s k = a := ⟨_, rfl⟩
      have hak : a ≤ s.size := by rw [← ha, ← hkk]; exact U8.start_le s k
      have haz : (a : Int) ≤ (s.size : Int) := by omega
      obtain ⟨t, ht⟩ : ∃ t, s.extract a s.size = t := ⟨_, rfl⟩
      have HX : Hid (t.data.toList = (U8.run s.data.toList).2 ∧ U8.outAt s k = (U8.run s.data.toList).1) := Lib.hid (by
        have e := U8.extract_open s k hks
        have e2 : s.data.toList.take s.size = s.data.toList := List.take_of_length_le (by rw [← Lib.size_eq]; exact Nat.le_refl _)
        rw [ha, hkk, ht] at e
        unfold U8.openAt at e
        unfold U8.outAt
        rw [hkk, e2]
        rw [e2] at e
        exact ⟨e, rfl⟩)
      have hts : t.size ≤ 1000 := by rw [← ht, ByteArray.size_extract]; omega
      obtain ⟨A, cap, hA⟩ := hout.slice
      obtain ⟨o, ho⟩ : ∃ o, U8.outAt s k = o := ⟨_, rfl⟩
      rw [ho] at hout hA HX
      rw [ha]
      subst hA
      clear ho ha hkk
      go_wp2_with (go_at_call 33; refine (clone_any t _ hts).mono ?_; rintro e w1 ⟨rfl, hbw⟩)
      go_ret2
      have hout2 := hout.below hbw
      obtain ⟨e1, e2⟩ := HX.out
      unfold Decoded
      rw [← e1, ← e2]
      exact ⟨A, cap, rfl, hout2⟩

end Go.Proofs.YtihfjkjbeeoanaaDoor
