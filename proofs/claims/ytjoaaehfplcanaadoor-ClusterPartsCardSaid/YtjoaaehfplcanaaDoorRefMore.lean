/-
  What the document's own Width and Attach of layer 3 return, for every string of at most 300 bytes and every number.
-/
import Derived.Test.YtjoaaehfplcanaaDoorRefCl
namespace Go.Proofs.YtjoaaehfplcanaaDoor
open Go.RowKit Go.Shelf

theorem nat_ne' {k : Nat} (h : k ≠ 0) : (((k : Nat) : Int) != 0) = true := by simp; omega

set_option maxHeartbeats 400000 in
set_option maxRecDepth 100000 in
theorem refwidth_cl (s : ByteArray) (w : World) (hs : s.size ≤ 300) :
    Calls Tryd.prog 19 #[.string s] w fun e w' => e = .returned (.int .i64 (Cl.widthC s.data.toList)) ∧ Below w.heap.size w w' := by
  have cC := Lib.hid (refcheck_any s w hs)
  have cL := Lib.hid (fun W => refchars_any s W hs)
  have HP := Lib.hid (fun h => Cl.parts_whole (l := s.data.toList) h)
  have HW : Hid (Cl.widthC s.data.toList = if Cl.chk s.data.toList = 0 then Cw.wd (Cl.baseOf s.data.toList) else 0) := Lib.hid rfl
  generalize Cl.widthC s.data.toList = z at HW ⊢
  generalize Cl.baseOf s.data.toList = b at HW HP
  generalize Cl.marksOf s.data.toList = ms at HP
  generalize (U8.run s.data.toList).1 = xs at HP cL
  generalize Cl.chk s.data.toList = k at HW cC HP
  by_cases hk : k = 0
  · subst hk
    have hxs := HP.out rfl
    subst hxs
    go_enter Tryd.func19, Tryd.ntmps19
    go_wp2_with fail
    refine cC.out.mono ?_
    rintro e w1 ⟨rfl, b1⟩
    go_wp2_with fail
    refine (cL.out w1).mono ?_
    rintro e w2 ⟨A, n, cap, rfl, hg⟩
    have b2 := b1.trans (hg.2.2.mono b1.size)
    have hlen := hg.length
    have hn1 : 1 ≤ n := by rw [hlen]; simp
    obtain ⟨bb, off, rfl, hbb, hc0⟩ := hg.1.2 0 (by omega)
    simp only [Nat.add_zero, List.getD_cons_zero] at hc0
    have hz0 : (0 : Int) < (n : Int) := by omega
    clear hg hlen b1
    go_wp2_with fail
    refine (refWidth_any b w2).mono ?_
    rintro e w3 ⟨rfl, b3⟩
    go_wp2
    go_ret
    exact ⟨ret_int (by rw [HW.out]; simp), b2.trans (b3.mono b2.size)⟩
  · have hne := nat_ne' hk
    go_enter Tryd.func19, Tryd.ntmps19
    go_wp2_with fail
    refine cC.out.mono ?_
    rintro e w1 ⟨rfl, b1⟩
    go_wp2
    go_ret
    exact ⟨ret_int (by rw [HW.out, if_neg hk]), b1⟩

set_option maxHeartbeats 1000000 in
set_option maxRecDepth 100000 in
theorem refattach_any (s : ByteArray) (r : Int) (w : World) (hs : s.size ≤ 300) (hr0 : -2147483648 ≤ r) (hr1 : r ≤ 2147483647) :
    Calls Tryd.prog 25 #[.string s, .int .i32 r] w fun e w' => e = .returned (.tuple #[.string (Cl.attS s r), .int .i64 (Cl.attE s.data.toList r : Nat)]) ∧ Below w.heap.size w w' := by
  have cC := Lib.hid (refcheck_any s w hs)
  have cL := Lib.hid (fun W => refchars_any s W hs)
  have HP := Lib.hid (fun h => Cl.parts_whole (l := s.data.toList) h)
  have HE : Hid (Cl.attE s.data.toList r = if Cl.chk s.data.toList ≠ 0 then Cl.chk s.data.toList else if Cl.isMark r = false then 9 else if (Cl.marksOf s.data.toList).length = 3 then 5 else 0) := Lib.hid rfl
  have HS : Hid (Cl.attS s r = if Cl.attE s.data.toList r = 0 then s ++ Cl.str [r] else ⟨#[]⟩) := Lib.hid rfl
  have hml := Cl.marksOf_len s.data.toList
  generalize Cl.attS s r = t at HS ⊢
  generalize Cl.attE s.data.toList r = ae at HS HE ⊢
  generalize Cl.baseOf s.data.toList = b at HP
  generalize Cl.marksOf s.data.toList = ms at HP HE hml
  generalize (U8.run s.data.toList).1 = xs at HP cL
  generalize Cl.chk s.data.toList = k at HE cC HP
  by_cases hk : k = 0
  · subst hk
    have hxs := HP.out rfl
    subst hxs
    have cM := fun W => refMark_cl r W
    cases hr : Cl.isMark r
    · rw [hr] at cM
      go_enter Tryd.func25, Tryd.ntmps25
      go_wp2_with fail
      refine cC.out.mono ?_
      rintro e w1 ⟨rfl, hb⟩
      go_wp2_with fail
      refine (cM w1).mono ?_
      rintro e w2 ⟨rfl, b2⟩
      go_wp2
      go_ret2
      have e9 : ae = 9 := by rw [HE.out, if_neg (by simp), if_pos hr]
      have et : t = ⟨#[]⟩ := by rw [HS.out, if_neg (by omega)]
      exact ⟨by rw [e9, et]; rfl, hb.trans (b2.mono hb.size)⟩
    · rw [hr] at cM
      by_cases h3 : ms.length = 3
      · go_enter Tryd.func25, Tryd.ntmps25
        go_wp2_with fail
        refine cC.out.mono ?_
        rintro e w1 ⟨rfl, hb⟩
        go_wp2_with fail
        refine (cM w1).mono ?_
        rintro e w2 ⟨rfl, b2⟩
        have b3 := hb.trans (b2.mono hb.size)
        go_wp2_with fail
        refine (cL.out w2).mono ?_
        rintro e w3 ⟨A, n, cap, rfl, hg⟩
        have hn : ((n : Int) == 4) = true := by
          have := hg.length
          rw [List.length_cons, h3] at this
          simp; omega
        have b4 := b3.trans (hg.2.2.mono b3.size)
        clear hg
        go_wp2
        go_ret2
        have e9 : ae = 5 := by rw [HE.out, if_neg (by simp), if_neg (by rw [hr]; simp), if_pos h3]
        have et : t = ⟨#[]⟩ := by rw [HS.out, if_neg (by omega)]
        exact ⟨by rw [e9, et]; rfl, b4⟩
      · obtain ⟨z, hz⟩ : ∃ z, Cl.str [r] = z := ⟨_, rfl⟩
        have hzs : z.size ≤ 4 := by rw [← hz]; exact Cl.str_size [r]
        have cE := fun W => refenc_one r W hr0 hr1
        rw [hz] at cE
        have HZ := Lib.hid hz
        clear hz
        have hcat : (s.size : Int) + (z.size : Int) ≤ 304 := by omega
        go_enter Tryd.func25, Tryd.ntmps25
        go_wp2_with fail
        refine cC.out.mono ?_
        rintro e w1 ⟨rfl, hb⟩
        go_wp2_with fail
        refine (cM w1).mono ?_
        rintro e w2 ⟨rfl, b2⟩
        have b3 := hb.trans (b2.mono hb.size)
        go_wp2_with fail
        refine (cL.out w2).mono ?_
        rintro e w3 ⟨A, n, cap, rfl, hg⟩
        have hn : ((n : Int) == 4) = false := by
          have := hg.length
          rw [List.length_cons] at this
          simp; omega
        have b4 := b3.trans (hg.2.2.mono b3.size)
        clear hg
        go_wp2_with fail
        refine (cE w3).mono ?_
        rintro e w4 ⟨rfl, b5⟩
        go_wp2
        go_ret2
        have e9 : ae = 0 := by rw [HE.out, if_neg (by simp), if_neg (by rw [hr]; simp), if_neg h3]
        have et : t = s ++ z := by rw [HS.out, if_pos e9, HZ.out]
        exact ⟨by rw [e9, et]; rfl, b4.trans (b5.mono b4.size)⟩
  · have hne := nat_ne' hk
    go_enter Tryd.func25, Tryd.ntmps25
    go_wp2_with fail
    refine cC.out.mono ?_
    rintro e w1 ⟨rfl, hb⟩
    go_wp2
    go_ret2
    have e9 : ae = k := by rw [HE.out, if_pos hk]
    have et : t = ⟨#[]⟩ := by rw [HS.out, if_neg (by omega)]
    exact ⟨by rw [e9, et]; rfl, hb⟩

end Go.Proofs.YtjoaaehfplcanaaDoor
