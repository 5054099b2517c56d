/-
  What the document's own encode, Characters, Check, Width and Attach of layer 3 return, for every string of at most 300 bytes and every number.
-/
import Derived.Test.YtjoaaehfplcanaaDoorRefValid
import Derived.Test.YtjoaaehfplcanaaDoorRef
import Derived.Test.YtjoaaehfplcanaaDoorClMore
namespace Go.Proofs.YtjoaaehfplcanaaDoor
open Go.RowKit Go.Shelf

theorem refMark_cl (r : Int) (w : World) : Calls Tryd.prog 34 #[.int .i32 r] w fun e w' => e = .returned (.bool (Cl.isMark r)) ∧ Below w.heap.size w w' := refMark_any r w

set_option maxHeartbeats 400000 in
set_option maxRecDepth 100000 in
theorem refenc_one (r : Int) (w : World) (h0 : -2147483648 ≤ r) (h1 : r ≤ 2147483647) :
    Calls Tryd.prog 35 #[.int .i32 r] w fun e w' => e = .returned (.string (Cl.str [r])) ∧ Below w.heap.size w w' := by
  have cE : Calls Tryd.prog 50 #[.slice (some ⟨w.heap.size, 0, none⟩) 1 1] (w.alloc (.cells #[.int .i32 r] 21)) fun e w' => e = .returned (.string (Cl.str [r])) ∧ Below (w.alloc (.cells #[.int .i32 r] 21)).heap.size (w.alloc (.cells #[.int .i32 r] 21)) w' :=
    refencode_any (some ⟨w.heap.size, 0, none⟩) 1 1 (w.heap.size + 1) [r] _ (nums_new w [r] 21 1 rfl) (by simp) (by omega) (fun z hz => by rw [List.mem_singleton] at hz; rw [hz]; exact ⟨h0, h1⟩)
  generalize Cl.str [r] = z at cE ⊢
  go_enter Tryd.func35, Tryd.ntmps35
  go_wp2_with fail
  refine cE.mono ?_
  rintro e w1 ⟨rfl, b1⟩
  go_wp2
  go_ret
  exact ⟨rfl, ((Below.refl _ w).alloc (Nat.le_refl _) _).trans (b1.mono (by simp))⟩

set_option maxHeartbeats 400000 in
set_option maxRecDepth 100000 in
theorem refchars_any (s : ByteArray) (w : World) (hs : s.size ≤ 300) :
    Calls Tryd.prog 22 #[.string s] w fun e w' => ∃ A n cap, e = .returned (.slice A n cap) ∧ Gives w w' A n cap (U8.run s.data.toList).1 := by
  have cD := Lib.hid (refdecode_fresh s w (by omega))
  go_enter Tryd.func22, Tryd.ntmps22
  go_wp2_with fail
  refine cD.out.mono ?_
  rintro e w1 ⟨A, n, cap, rfl, hout⟩
  have HG := Lib.hid hout.gives
  clear hout
  go_wp2
  go_ret
  exact ⟨A, n, cap, rfl, HG.out⟩

set_option maxHeartbeats 2000000 in
set_option maxRecDepth 100000 in
theorem refcheck_any (s : ByteArray) (w : World) (hs : s.size ≤ 300) :
    Calls Tryd.prog 17 #[.string s] w fun e w' => e = .returned (.int .i64 (Cl.chk s.data.toList : Nat)) ∧ Below w.heap.size w w' := by
  by_cases h0 : s.data.toList = []
  · obtain rfl : s = ⟨#[]⟩ := ext_bytes h0
    clear h0
    go_enter Tryd.func17, Tryd.ntmps17
    go_wp2
    go_ret
    exact ⟨ret_int (by rw [Cl.chk_bad (.inl rfl)]; rfl), Below.refl _ _⟩
  · have hem : s.toList.isEmpty = false := by
      rw [Lib.toList_data]
      cases h : s.data.toList with
      | nil => exact absurd h h0
      | cons _ _ => rfl
    have cV := refvalid_any s w (by omega)
    cases hV : Lib.validD s.data.toList
    · rw [hV] at cV
      have HB := Lib.hid (Cl.chk_bad (.inr hV))
      have CV := Lib.hid cV
      clear cV hV h0
      go_enter Tryd.func17, Tryd.ntmps17
      go_wp2_with fail
      refine CV.out.mono ?_
      rintro e w1 ⟨rfl, b1⟩
      go_wp2
      go_ret
      exact ⟨ret_int (by rw [HB.out]; rfl), b1⟩
    · rw [hV] at cV
      have CV := Lib.hid cV
      have cC := fun W => refchars_any s W (by omega)
      obtain ⟨xs, hxs⟩ : ∃ xs, (U8.run s.data.toList).1 = xs := ⟨_, rfl⟩
      have hxl : xs.length ≤ 300 := by rw [← hxs]; exact Nat.le_trans (U8.run_out_le _) (by rw [← Lib.size_eq]; omega)
      rw [hxs] at cC
      obtain ⟨b, ms, rfl⟩ : ∃ b ms, xs = b :: ms := by
        cases xs with
        | nil =>
          obtain ⟨_, hq⟩ := (U8.valid_iff s.data.toList).1 hV
          rw [hxs] at hq
          exact absurd hq.symm h0
        | cons b ms => exact ⟨b, ms, rfl⟩
      have hchk := Cl.chk_valid (l := s.data.toList) (b := b) (ms := ms) (by rw [hV]; simp [h0]) hxs
      generalize Cl.chk s.data.toList = ck at hchk ⊢
      have HC := Lib.hid hchk
      have CC := Lib.hid cC
      clear hchk hV hxs cV cC h0
      go_enter Tryd.func17, Tryd.ntmps17
      go_wp2_with fail
      refine CV.out.mono ?_
      rintro e w1 ⟨rfl, b1⟩
      go_wp2_with fail
      refine (CC.out w1).mono ?_
      rintro e w2 ⟨A, n, cap, rfl, hg⟩
      have hlen := hg.length
      have hm := hg.1
      have b2 : Below w.heap.size w w2 := b1.trans (hg.2.2.mono b1.size)
      have hn1 : 1 ≤ n := by rw [hlen]; simp
      have hnl : n ≤ 300 := by omega
      have HLen := Lib.hid hlen
      obtain ⟨bb, off, rfl, hbb, hc0⟩ := hm.2 0 (by omega)
      simp only [Nat.add_zero, List.getD_cons_zero] at hc0
      have hz0 : (0 : Int) < (n : Int) := by omega
      clear hg hlen
      have HM := Lib.hid hm
      clear hm
      cases hbs : Cl.isBase b
      · have HK : Hid (ck = 9) := Lib.hid (by rw [HC.out, if_pos (.inl hbs)])
        cases hmk : Cl.isMark b
        · have hw := Cl.other_ctl hmk hbs
          have cM := refMark_cl b w2
          rw [hmk] at cM
          have cW := fun W => refWidth_any b W
          rw [hw] at cW
          clear hbs hmk hw
          go_wp2_with fail
          refine cM.mono ?_
          rintro e w3 ⟨rfl, b3⟩
          have hc3 := (b3.cell (p := ⟨bb, off, none⟩) hbb).trans hc0
          go_wp2_with fail
          refine (cW w3).mono ?_
          rintro e w4 ⟨rfl, b4⟩
          go_wp2
          go_ret
          have b5 := b2.trans (b3.mono b2.size)
          exact ⟨ret_int (by rw [HK.out]; rfl), b5.trans (b4.mono b5.size)⟩
        · have cM := refMark_cl b w2
          rw [hmk] at cM
          clear hbs hmk
          go_wp2_with fail
          refine cM.mono ?_
          rintro e w3 ⟨rfl, b3⟩
          go_wp2
          go_ret
          exact ⟨ret_int (by rw [HK.out]; rfl), b2.trans (b3.mono b2.size)⟩
      · have hmk := Cl.base_not_mark hbs
        have cM := refMark_cl b w2
        rw [hmk] at cM
        have hw : 0 < Cw.wd b := by unfold Cl.isBase at hbs; simpa using hbs
        have cW := fun W => refWidth_any b W
        obtain ⟨wz, hwz⟩ : ∃ wz, Cw.wd b = wz := ⟨_, rfl⟩
        rw [hwz] at cW hw
        have hw1 : ¬ wz < 1 := by omega
        have HBS := Lib.hid hbs
        clear hbs hmk hwz
        go_wp2_with fail
        refine cM.mono ?_
        rintro e w3 ⟨rfl, b3⟩
        have hc3 := (b3.cell (p := ⟨bb, off, none⟩) hbb).trans hc0
        go_wp2_with fail
        refine (cW w3).mono ?_
        rintro e w4 ⟨rfl, b4⟩
        have b5 : Below w2.heap.size w2 w4 := b3.trans (b4.mono b3.size)
        clear hc3 hc0 b3 b4 cM cW
        have b6 : Hid (Below w.heap.size w w2) := Lib.hid b2
        have B5 := Lib.hid b5
        clear b2 b5
        go_wp2
        go_loopg [4] n (fun gg s4 wr => ∃ k : Nat, 1 ≤ k ∧ k ≤ n ∧ n - k ≤ gg ∧ s4 = .int .i64 k ∧ Aside (Below w2.heap.size w2 wr) ∧ Aside (∀ j, 1 ≤ j → j < k → Cl.isMark ((b :: ms).getD j 0) = true))
        case atStart => exact ⟨1, by omega, hn1, by omega, rfl, B5.out, fun j h1 h2 => by omega⟩
        case round =>
          obtain ⟨k, hk1, hk, hgg, rfl, BW, A'⟩ := hrel
          by_cases hkn : k < n
          · have hz : (k : Int) < (n : Int) := by omega
            have hz0 : (0 : Int) ≤ (k : Int) := by omega
            obtain ⟨b', off', e', hb', hc⟩ := HM.out.2 k hkn
            injection e' with e'
            injection e' with e1 e2
            subst e1 e2
            have hc1 := (BW.out.cell (p := ⟨bb, off + k, none⟩) hbb).trans hc
            have hsz := BW.out.size
            have hcall := refMark_cl ((b :: ms).getD k 0) wr
            clear hc
            obtain ⟨y, hy⟩ : ∃ y, (b :: ms).getD k 0 = y := ⟨_, rfl⟩
            rw [hy] at hc1 hcall
            have HY := Lib.hid hy
            clear hy
            cases hq : Cl.isMark y with
            | false =>
              rw [hq] at hcall
              have HQ := Lib.hid hq
              clear hq
              go_wp2_with (go_at_call 34; refine hcall.mono ?_; rintro e w' ⟨rfl, hb'⟩)
              go_ret
              have hf : ms.all Cl.isMark = false := by
                rw [List.all_eq_false]
                obtain ⟨j, rfl⟩ : ∃ j, k = j + 1 := ⟨k - 1, by omega⟩
                have hjm : j < ms.length := by have := HLen.out; simp at this; omega
                refine ⟨ms[j], List.getElem_mem hjm, ?_⟩
                have e : ms[j] = y := by rw [← HY.out]; simp [hjm]
                rw [e, HQ.out]
                simp
              have b7 := b6.out
              have b8 := b7.trans (BW.out.mono b7.size)
              exact ⟨ret_int (by rw [HC.out, if_pos (.inr hf)]; rfl), b8.trans (hb'.mono b8.size)⟩
            | true =>
              rw [hq] at hcall
              have HQ := Lib.hid hq
              clear hq
              go_wp2_with (go_at_call 34; refine hcall.mono ?_; rintro e w' ⟨rfl, hb'⟩)
              go_roundg (n - (k + 1))
              case measure => omega
              case rel =>
                refine ⟨k + 1, by omega, by omega, by omega, by go_num, BW.out.trans (hb'.mono hsz), (show Aside _ from fun j h1 h2 => ?_)⟩
                by_cases e : j = k
                · subst e
                  rw [HY.out]; exact HQ.out
                · exact A'.out j h1 (by omega)
          · have hz : ¬ (k : Int) < (n : Int) := by omega
            have hf : ms.all Cl.isMark = true := by
              rw [List.all_eq_true]
              intro z hz'
              obtain ⟨j, hj, rfl⟩ := List.mem_iff_getElem.1 hz'
              have hl2 := HLen.out
              simp at hl2
              have := A'.out (j + 1) (by omega) (by omega)
              simpa [hj] using this
            have HF := Lib.hid hf
            clear hf
            have hl2 : n = ms.length + 1 := by have := HLen.out; simpa using this
            have b7 := b6.out
            have b8 := b7.trans (BW.out.mono b7.size)
            by_cases h3 : 3 < ms.length
            · have h4 : (4 : Int) < (n : Int) := by omega
              go_wp2
              go_ret
              exact ⟨ret_int (by rw [HC.out, if_neg (by rw [HBS.out, HF.out]; simp), if_pos h3]; rfl), b8⟩
            · have h4 : ¬ (4 : Int) < (n : Int) := by omega
              go_wp2
              go_ret
              exact ⟨ret_int (by rw [HC.out, if_neg (by rw [HBS.out, HF.out]; simp), if_neg h3]; rfl), b8⟩

end Go.Proofs.YtjoaaehfplcanaaDoor
