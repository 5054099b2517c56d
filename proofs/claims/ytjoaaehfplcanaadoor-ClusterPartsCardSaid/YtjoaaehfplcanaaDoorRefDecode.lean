/-
  What the document's own Decode and Finish return, for every two strings of at most 1000 bytes together: the same as the plain decoder.
-/
import Derived.Test.YtjoaaehfplcanaaDoorTwo
namespace Go.Proofs.YtjoaaehfplcanaaDoor
open Go.RowKit Go.Shelf

namespace U8
theorem runFrom_len (o : List Int) (q : List UInt8) (l : List UInt8) : o.length ≤ (runFrom (o, q) l).1.length := by
  rw [runFrom_out]; simp
/-- A byte at no open bytes. -/
theorem step_ascii (o : List Int) (b : UInt8) (h : b.toNat < 128) : step (o, []) b = (o ++ [(b.toNat : Int)], []) := by
  have e : seqLen b.toNat = 1 := by unfold seqLen; rw [if_pos (by omega)]
  unfold step settle
  rw [if_neg (fun h => h.1 rfl)]
  unfold push
  have e1 : seqLen (first ([] ++ [b])) = 1 := e
  rw [if_neg (by rw [e1]; decide), if_pos (by rw [e1]; rfl)]
  rfl
theorem step_begin (o : List Int) (b : UInt8) (h : 1 < seqLen b.toNat) : step (o, []) b = (o, [b]) :=
  step_open (k := []) (b := b) o (.inl rfl) (by show seqLen b.toNat ≠ 0; omega) (by show seqLen b.toNat ≠ 1; omega)
theorem step_bad (o : List Int) (b : UInt8) (h : seqLen b.toNat = 0) : step (o, []) b = (o ++ [65533], []) := by
  unfold step settle
  rw [if_neg (fun h => h.1 rfl)]
  unfold push
  have e1 : seqLen (first ([] ++ [b])) = 0 := h
  rw [if_pos e1]
/-- A byte that does not continue the open ones: it is met again, with none open. -/
theorem step_again (o : List Int) (q : List UInt8) (b : UInt8) (hq : q ≠ []) (h : mayF q b.toNat = false) : step (o, q) b = step (o ++ [65533], []) b := by
  have e1 : settle (o, q) b = (o ++ [65533], []) := by unfold settle; rw [if_pos ⟨hq, h⟩]
  have e2 : settle (o ++ [65533], []) b = (o ++ [65533], []) := by unfold settle; rw [if_neg (fun h => h.1 rfl)]
  unfold step
  rw [e1, e2]
theorem step_more (o : List Int) (q : List UInt8) (b : UInt8) (hq : q ≠ []) (ho : Opened q) (h : mayF q b.toNat = true) :
    Pre (q ++ [b]) ∧ step (o, q) b = if (q ++ [b]).length = seqLen (first q) then (o ++ [(val (q ++ [b]) : Int)], []) else (o, q ++ [b]) := by
  rcases ho with h0 | ⟨hP, hl⟩
  · exact absurd h0 hq
  · have e1 : settle (o, q) b = (o, q) := by
      unfold settle
      rw [if_neg]
      rintro ⟨_, h2⟩
      rw [h] at h2
      cases h2
    refine ⟨pre_snoc hP hl h, ?_⟩
    unfold step
    rw [e1]
    unfold push
    simp only
    rw [first_snoc hq, if_neg (by omega)]
    by_cases hc : (q ++ [b]).length = seqLen (first q)
    · rw [if_pos hc.symm, if_pos hc]
    · rw [if_neg (fun e => hc e.symm), if_neg hc]
end U8

theorem bytes_one (w : World) (b : UInt8) (t : TypeId) : Bytes (w.alloc (.cells #[.int .u8 (b.toNat : Int)] t)) (some ⟨w.heap.size, 0, none⟩) 1 [b] := by
  refine ⟨rfl, fun j hj => ⟨w.heap.size, 0, rfl, ?_⟩⟩
  obtain rfl : j = 0 := by omega
  have e : (w.alloc (.cells #[.int .u8 (b.toNat : Int)] t)).heap[w.heap.size]? = some (.cells #[.int .u8 (b.toNat : Int)] t) := heap_alloc_new w _
  unfold World.cell?
  rw [e]
  rfl

/-- What is left to do: from place k on, with the numbers o and the open bytes q. -/
def Left (s : ByteArray) (k : Nat) (o : List Int) (q : List UInt8) : Prop :=
  U8.runFrom (o, q) (s.data.toList.drop k) = U8.run s.data.toList ∧ U8.Opened q

theorem left_step {s : ByteArray} {k : Nat} {o o' : List Int} {q q' : List UInt8} {b : UInt8} (h : Left s k o q) (hd : s.data.toList.drop k = b :: s.data.toList.drop (k + 1)) (hs : U8.step (o, q) b = (o', q')) : Left s (k + 1) o' q' := by
  have h1 := h.1
  rw [hd, U8.runFrom_cons, hs] at h1
  refine ⟨h1, ?_⟩
  have := U8.opened_step (st := (o, q)) b h.2
  rw [hs] at this
  exact this
theorem left_again {s : ByteArray} {k : Nat} {o : List Int} {q : List UInt8} {b : UInt8} (h : Left s k o q) (hd : s.data.toList.drop k = b :: s.data.toList.drop (k + 1)) (hq : q ≠ []) (hm : U8.mayF q b.toNat = false) : Left s k (o ++ [65533]) [] := by
  refine ⟨?_, .inl rfl⟩
  rw [← h.1, hd, U8.runFrom_cons, U8.runFrom_cons, U8.step_again o q b hq hm]

set_option maxHeartbeats 2000000 in
set_option maxRecDepth 100000 in
theorem refdecode_any (p c : ByteArray) (w : World) (hsz : p.size + c.size ≤ 1000) :
    Calls Tryd.prog 39 #[.string p, .string c] w fun e w' => ∃ A n cap, e = .returned (.tuple #[.slice A n cap, .string ⟨(U8.run (p.data.toList ++ c.data.toList)).2.toArray⟩]) ∧
      Out w w' (.slice A n cap) (U8.run (p.data.toList ++ c.data.toList)).1 := by
  obtain ⟨s, hs⟩ : ∃ s, p ++ c = s := ⟨_, rfl⟩
  have hl : p.data.toList ++ c.data.toList = s.data.toList := by rw [← hs]; simp [ByteArray.data_append]
  have hss : s.size ≤ 1000 := by rw [← hs, ByteArray.size_append]; exact hsz
  rw [hl]
  clear hl
  have hol : ∀ k o q, Left s k o q → o.length ≤ 1000 := fun k o q h => by
    have h1 := U8.runFrom_len o q (s.data.toList.drop k)
    rw [h.1] at h1
    have h2 := U8.run_out_le s.data.toList
    rw [← Lib.size_eq] at h2
    omega
  have HOL := Lib.hid hol
  clear hol
  go_enter Tryd.func39, Tryd.ntmps39
  go_wp2
  clear hs hsz
  go_loopg [7, 8, 9] (2 * s.size + 1) (fun gk v u i wr => ∃ (k : Nat) (o : List Int) (q : List UInt8), 2 * (s.size - k) + min 1 q.length < gk ∧ k ≤ s.size ∧ i = .int .i64 (k : Int) ∧ Left s k o q ∧ Two w wr v o u q)
  case atStart => exact ⟨0, [], [], by simp, Nat.zero_le _, rfl, ⟨rfl, .inl rfl⟩, Two.start w⟩
  case round =>
    obtain ⟨k, o, q, hg, hks, rfl, hleft, h2⟩ := hrel
    have hoz := HOL.out k o q hleft
    by_cases hlt : k < s.size
    · have hz : (k : Int) < (s.size : Int) := by omega
      obtain ⟨b, hb⟩ : ∃ b, s[k] = b := ⟨_, rfl⟩
      have hbl : b.toNat < 256 := b.toNat_lt
      have Hdrop : Hid (s.data.toList.drop k = b :: s.data.toList.drop (k + 1)) := Lib.hid (by
        rw [← hb]; exact List.drop_eq_getElem_cons (by rw [← Lib.size_eq]; exact hlt))
      have HL := Lib.hid hleft
      clear hleft HOL
      obtain ⟨A, n, cap, hu, hB⟩ := h2.kept
      subst hu
      have hn : q.length = n := hB.1
      by_cases hq : q = []
      · subst hq
        obtain rfl : n = 0 := hn.symm
        have cL := limits_any (some ⟨wr.heap.size, 0, none⟩) 1 1 [b] (wr.alloc (.cells #[.int .u8 (b.toNat : Int)] 5)) (by decide) (by decide) (bytes_one wr b 5)
        obtain ⟨z, hz3⟩ : ∃ z, sizeOfFirst (U8.first [b]) = z := ⟨_, rfl⟩
        rw [hz3] at cL
        generalize U8.low [b] = x1 at cL
        generalize U8.high [b] = x2 at cL
        have CL := Lib.hid cL
        have h3 := h2.alloc (.cells #[.int .u8 (b.toNat : Int)] 5)
        have HZ : Hid ((if U8.seqLen b.toNat = 1 then 0 else U8.seqLen b.toNat) = z) := Lib.hid hz3
        clear cL hz3 hB h2
        have hcase : b.toNat < 128 ∨ (128 ≤ b.toNat ∧ 1 < U8.seqLen b.toNat ∧ z = U8.seqLen b.toNat) ∨ (128 ≤ b.toNat ∧ U8.seqLen b.toNat = 0 ∧ z = 0) := by
          have h1 := HZ.out
          rcases Nat.lt_or_ge b.toNat 128 with h | h
          · exact .inl h
          · right
            have hne : U8.seqLen b.toNat ≠ 1 := by
              unfold U8.seqLen
              repeat' split
              all_goals omega
            rw [if_neg hne] at h1
            omega
        rcases hcase with hc1 | ⟨hc1, hc2, hc3⟩ | ⟨hc1, hc2, hc3⟩
        · have hbz : (b.toNat : Int) < 128 := by omega
          go_wp2_with (first | (go_at_call 55; refine CL.out.mono ?_; rintro e w1 ⟨rfl, rfl⟩; generalize wr.alloc (.cells #[.int .u8 (b.toNat : Int)] 5) = w1 at h3 ⊢) | (at_builtin; refine wpList_push_out rfl (.tmp 47) (.tmp 50) rfl w _ _ _ o [] (b.toNat : Int) rfl rfl h3 (by omega) ?_; intro v1 w2 h4))
          go_roundg (2 * (s.size - (k + 1)) + 1)
          case measure => simp at hg; omega
          case rel => exact ⟨k + 1, o ++ [(b.toNat : Int)], [], by simp, by omega, by go_num, left_step HL.out Hdrop.out (U8.step_ascii o b hc1), h4⟩
        · have hbz : ¬ (b.toNat : Int) < 128 := by omega
          have hzz : (0 : Int) < (z : Int) := by omega
          clear hc3
          go_wp2_with (first | (go_at_call 55; refine CL.out.mono ?_; rintro e w1 ⟨rfl, rfl⟩; generalize wr.alloc (.cells #[.int .u8 (b.toNat : Int)] 5) = w1 at h3 ⊢) | (at_builtin; refine wpList_push_kept rfl (.tmp 55) (.tmp 57) rfl w _ _ _ o [] b rfl rfl h3 (by simp) ?_; intro v1 w2 h4))
          go_roundg (2 * (s.size - (k + 1)) + 2)
          case measure => simp at hg; omega
          case rel => exact ⟨k + 1, o, [b], by simp, by omega, by go_num, left_step HL.out Hdrop.out (U8.step_begin o b hc2), h4⟩
        · have hbz : ¬ (b.toNat : Int) < 128 := by omega
          have hzz : ¬ (0 : Int) < (z : Int) := by omega
          clear hc3
          go_wp2_with (first | (go_at_call 55; refine CL.out.mono ?_; rintro e w1 ⟨rfl, rfl⟩; generalize wr.alloc (.cells #[.int .u8 (b.toNat : Int)] 5) = w1 at h3 ⊢) | (at_builtin; refine wpList_push_out rfl (.tmp 41) (.tmp 42) rfl w _ _ _ o [] 65533 rfl rfl h3 (by omega) ?_; intro v1 w2 h4))
          go_roundg (2 * (s.size - (k + 1)) + 1)
          case measure => simp at hg; omega
          case rel => exact ⟨k + 1, o ++ [65533], [], by simp, by omega, by go_num, left_step HL.out Hdrop.out (U8.step_bad o b hc2), h4⟩
      · have hq1 : 1 ≤ q.length := List.length_pos_iff.2 hq
        have hop := HL.out.2
        have hq3 := U8.opened_length hop
        have cL := limits_any A n cap q wr (by omega) (by omega) hB
        have HM : Hid ((decide (U8.low q ≤ b.toNat) && decide (b.toNat ≤ U8.high q)) = U8.mayF q b.toNat) := Lib.hid rfl
        obtain ⟨z, hz3⟩ : ∃ z, sizeOfFirst (U8.first q) = z := ⟨_, rfl⟩
        rw [hz3] at cL
        have HZ : Hid (z = U8.seqLen (U8.first q)) := Lib.hid (by
          rw [← hz3]
          unfold sizeOfFirst
          rw [if_neg]
          rcases hop with h | h
          · exact absurd h hq
          · have := h.2; omega)
        generalize U8.low q = x1 at cL HM
        generalize U8.high q = x2 at cL HM
        have CL := Lib.hid cL
        clear cL hz3 hB hop
        have hnz : ((n : Int) == 0) = false := by simp; omega
        have hnp : (0 : Int) < (n : Int) := by omega
        have HN := Lib.hid hn
        clear hn
        have hcase : (b.toNat < x1 ∨ x2 < b.toNat) ∨ (x1 ≤ b.toNat ∧ b.toNat ≤ x2) := by omega
        rcases hcase with hc1 | ⟨hc1, hc2⟩
        · have hmf : Hid (U8.mayF q b.toNat = false) := Lib.hid (by
            rw [← HM.out]
            simp only [Bool.and_eq_false_iff, decide_eq_false_iff_not]
            omega)
          by_cases hc2 : b.toNat < x1
          · have hcz : (b.toNat : Int) < (x1 : Int) := by omega
            go_wp2_with (first | (go_at_call 55; refine CL.out.mono ?_; rintro e w1 ⟨rfl, rfl⟩) | (at_builtin; refine wpList_push_out rfl (.tmp 73) (.tmp 74) rfl w wr _ _ o q 65533 rfl rfl h2 (by omega) ?_; intro v1 w2 h4))
            go_roundg (2 * (s.size - k) + 1)
            case measure => omega
            case rel => exact ⟨k, o ++ [65533], [], by simp, by omega, rfl, left_again HL.out Hdrop.out hq hmf.out, h4.fresh⟩
          · have hcz : ¬ (b.toNat : Int) < (x1 : Int) := by omega
            have hcz2 : (x2 : Int) < (b.toNat : Int) := by omega
            go_wp2_with (first | (go_at_call 55; refine CL.out.mono ?_; rintro e w1 ⟨rfl, rfl⟩) | (at_builtin; refine wpList_push_out rfl (.tmp 73) (.tmp 74) rfl w wr _ _ o q 65533 rfl rfl h2 (by omega) ?_; intro v1 w2 h4))
            go_roundg (2 * (s.size - k) + 1)
            case measure => omega
            case rel => exact ⟨k, o ++ [65533], [], by simp, by omega, rfl, left_again HL.out Hdrop.out hq hmf.out, h4.fresh⟩
        · have hmt : U8.mayF q b.toNat = true := by
            rw [← HM.out]
            simp only [Bool.and_eq_true, decide_eq_true_eq]
            omega
          have hcz : ¬ (b.toNat : Int) < (x1 : Int) := by omega
          have hcz2 : ¬ (x2 : Int) < (b.toNat : Int) := by omega
          obtain ⟨hP, hstep⟩ := U8.step_more o q b hq HL.out.2 hmt
          rw [← HZ.out] at hstep
          have hql : (q ++ [b]).length = q.length + 1 := by simp
          have HS := Lib.hid hstep
          have HP := Lib.hid hP
          clear hstep hP hmt HM
          by_cases hend : q.length + 1 = z
          · have hstep2 : Hid (U8.step (o, q) b = (o ++ [(U8.val (q ++ [b]) : Int)], [])) := Lib.hid (by rw [HS.out, if_pos (hql.trans hend)])
            have hwhole : Hid (U8.seqLen (U8.first (q ++ [b])) = (q ++ [b]).length) := Lib.hid (by rw [U8.first_snoc hq, ← HZ.out, hql]; exact hend.symm)
            have HEnd := Lib.hid hend
            have HQL := Lib.hid hql
            clear hend hql
            go_wp2_with (first | (go_at_call 55; refine CL.out.mono ?_; rintro e w1 ⟨rfl, rfl⟩) | (at_builtin; refine wpList_push_kept rfl (.tmp 79) (.tmp 81) rfl w wr _ _ o q b rfl rfl h2 (by omega) ?_; intro v1 w2 h4; obtain ⟨A4, n4, cap4, hv4, hB4⟩ := h4.kept; subst hv4; have hn4 : ((n4 : Int) == (z : Int)) = true := (by rw [← hB4.1, HQL.out, HEnd.out]; simp); have hn5 : 1 < n4 := (by rw [← hB4.1, HQL.out]; omega)) | (go_at_call 56; refine (value_any A4 n4 cap4 (q ++ [b]) w2 hB4 HP.out hwhole.out hn5).mono ?_; rintro e w3 ⟨rfl, rfl⟩) | (at_builtin; refine wpList_push_out rfl (.tmp 87) (.tmp 90) rfl w w2 _ _ o (q ++ [b]) _ rfl rfl h4 (by omega) ?_; intro v5 w5 h5))
            go_roundg (2 * (s.size - (k + 1)) + 1)
            case measure => omega
            case rel => exact ⟨k + 1, o ++ [(U8.val (q ++ [b]) : Int)], [], by simp, by omega, by go_num, left_step HL.out Hdrop.out hstep2.out, h5.fresh⟩
          · have hstep2 : Hid (U8.step (o, q) b = (o, q ++ [b])) := Lib.hid (by rw [HS.out, if_neg (fun e => hend (hql.symm.trans e))])
            have HEnd := Lib.hid hend
            have HQL := Lib.hid hql
            clear hend hql
            go_wp2_with (first | (go_at_call 55; refine CL.out.mono ?_; rintro e w1 ⟨rfl, rfl⟩) | (at_builtin; refine wpList_push_kept rfl (.tmp 79) (.tmp 81) rfl w wr _ _ o q b rfl rfl h2 (by omega) ?_; intro v1 w2 h4; obtain ⟨A4, n4, cap4, hv4, hB4⟩ := h4.kept; subst hv4; have hn4 : ((n4 : Int) == (z : Int)) = false := (by rw [← hB4.1, HQL.out]; have := HEnd.out; simp; omega)))
            go_roundg (2 * (s.size - (k + 1)) + 2)
            case measure => omega
            case rel => exact ⟨k + 1, o, q ++ [b], by simp, by omega, by go_num, left_step HL.out Hdrop.out hstep2.out, h4⟩
    · have hkz : ¬ (k : Int) < (s.size : Int) := by omega
      obtain ⟨A, n, cap, hu, hB⟩ := h2.kept
      subst hu
      have hrun : U8.run s.data.toList = (o, q) := by
        rw [← hleft.1, List.drop_of_length_le (by rw [← Lib.size_eq]; omega), U8.runFrom_nil]
      have HR := Lib.hid hrun
      clear hrun hleft HOL
      have hcv : ∀ W : World, Bytes W A n q → (convert 60 9 (.slice A n cap)).run Tryd.prog W = .ok (.string ⟨q.toArray⟩) W := fun W h => run_bytes_string W A n cap q h
      have hcv2 : ∀ m, (convert 60 9 (.slice A n cap)).run Tryd.prog (wr.drewN m) = .ok (.string ⟨q.toArray⟩) (wr.drewN m) := fun m => hcv (wr.drewN m) hB
      clear hcv
      obtain ⟨A1, n1, c1, hv, _⟩ := h2.out.reads
      subst hv
      go_wp2
      go_quiet (fail)
      go_wp2
      go_ret2
      rw [HR.out]
      exact ⟨A1, n1, c1, rfl, (h2.drewN nq).out⟩

theorem refdecode_fresh (c : ByteArray) (w : World) (hsz : c.size ≤ 1000) :
    Calls Tryd.prog 39 #[.string { data := #[] }, .string c] w fun e w' => ∃ A n cap, e = .returned (.tuple #[.slice A n cap, .string ⟨(U8.run c.data.toList).2.toArray⟩]) ∧ Out w w' (.slice A n cap) (U8.run c.data.toList).1 :=
  refdecode_any { data := #[] } c w (by show 0 + c.size ≤ 1000; omega)


end Go.Proofs.YtjoaaehfplcanaaDoor
