/-
  What Check, Width, Base, Marks and Attach of cluster return, for every string of at most 300 bytes and every number.
-/
import Derived.Test.YtjoaaehfplcanaaDoorPieces
import Derived.Test.YtjoaaehfplcanaaDoorClMore
namespace Go.Proofs.YtjoaaehfplcanaaDoor
open Go.RowKit Go.Shelf

theorem nat_ne {k : Nat} (h : k ≠ 0) : (((k : Nat) : Int) != 0) = true := by simp; omega

set_option maxHeartbeats 400000 in
set_option maxRecDepth 100000 in
theorem check_any (s : ByteArray) (w : World) (hs : s.size ≤ 300) (hT : Lib.Utf8Tabs 0 1 w) :
    Calls Tryd.prog 16 #[.string s] w fun e w' => e = .returned (.int .i64 (Cl.chk s.data.toList : Nat)) ∧ Below w.heap.size w w' := by
  have cP := Lib.hid (parts_any s w hs hT)
  go_enter Tryd.func16, Tryd.ntmps16
  go_wp2_with fail
  refine cP.out.mono ?_
  rintro e w1 ⟨A, n, cap, rfl, hg⟩
  have hb := hg.2.2
  clear hg
  go_wp2
  go_ret
  exact ⟨rfl, hb⟩
set_option maxHeartbeats 400000 in
set_option maxRecDepth 100000 in
theorem base_any (s : ByteArray) (w : World) (hs : s.size ≤ 300) (hT : Lib.Utf8Tabs 0 1 w) :
    Calls Tryd.prog 20 #[.string s] w fun e w' => e = .returned (.int .i32 (Cl.baseOf s.data.toList)) ∧ Below w.heap.size w w' := by
  have cP := Lib.hid (parts_any s w hs hT)
  go_enter Tryd.func20, Tryd.ntmps20
  go_wp2_with fail
  refine cP.out.mono ?_
  rintro e w1 ⟨A, n, cap, rfl, hg⟩
  have hb := hg.2.2
  clear hg
  go_wp2
  go_ret
  exact ⟨rfl, hb⟩
set_option maxHeartbeats 400000 in
set_option maxRecDepth 100000 in
theorem marksC_any (s : ByteArray) (w : World) (hs : s.size ≤ 300) (hT : Lib.Utf8Tabs 0 1 w) :
    Calls Tryd.prog 21 #[.string s] w fun e w' => ∃ A n cap, e = .returned (.slice A n cap) ∧ Gives w w' A n cap (Cl.marksOf s.data.toList) := by
  have cP := Lib.hid (parts_any s w hs hT)
  go_enter Tryd.func21, Tryd.ntmps21
  go_wp2_with fail
  refine cP.out.mono ?_
  rintro e w1 ⟨A, n, cap, rfl, hg⟩
  have HG := Lib.hid hg
  clear hg
  go_wp2
  go_ret
  exact ⟨A, n, cap, rfl, HG.out⟩
set_option maxHeartbeats 400000 in
set_option maxRecDepth 100000 in
theorem widthC_any (s : ByteArray) (w : World) (hs : s.size ≤ 300) (hT : Lib.Utf8Tabs 0 1 w) :
    Calls Tryd.prog 18 #[.string s] w fun e w' => e = .returned (.int .i64 (Cl.widthC s.data.toList)) ∧ Below w.heap.size w w' := by
  have cP := Lib.hid (parts_any s w hs hT)
  have HW : Hid (Cl.widthC s.data.toList = if Cl.chk s.data.toList = 0 then Cw.wd (Cl.baseOf s.data.toList) else 0) := Lib.hid rfl
  unfold Apart at cP
  generalize Cl.widthC s.data.toList = z at HW ⊢
  generalize Cl.baseOf s.data.toList = b at HW cP
  generalize Cl.chk s.data.toList = k at HW cP
  by_cases hk : k = 0
  · subst hk
    go_enter Tryd.func18, Tryd.ntmps18
    go_wp2_with fail
    refine cP.out.mono ?_
    rintro e w1 ⟨A, n, cap, rfl, hg⟩
    have hb := hg.2.2
    clear hg
    go_wp2_with fail
    refine (width_any b w1).mono ?_
    rintro e w2 ⟨rfl, b2⟩
    go_wp2
    go_ret
    exact ⟨ret_int (by rw [HW.out]; simp), hb.trans (b2.mono hb.size)⟩
  · have hne := nat_ne hk
    go_enter Tryd.func18, Tryd.ntmps18
    go_wp2_with fail
    refine cP.out.mono ?_
    rintro e w1 ⟨A, n, cap, rfl, hg⟩
    have hb := hg.2.2
    clear hg
    go_wp2
    go_ret
    exact ⟨ret_int (by rw [HW.out, if_neg hk]), hb⟩
set_option maxHeartbeats 1000000 in
set_option maxRecDepth 100000 in
theorem attachC_any (s : ByteArray) (r : Int) (w : World) (hs : s.size ≤ 300) (hT : Lib.Utf8Tabs 0 1 w) :
    Calls Tryd.prog 24 #[.string s, .int .i32 r] w fun e w' => e = .returned (.tuple #[.string (Cl.attS s r), .int .i64 (Cl.attE s.data.toList r : Nat)]) ∧ Below w.heap.size w w' := by
  have cP := Lib.hid (parts_any s w hs hT)
  have HE : Hid (Cl.attE s.data.toList r = if Cl.chk s.data.toList ≠ 0 then Cl.chk s.data.toList else if Cl.isMark r = false then 9 else if (Cl.marksOf s.data.toList).length = 3 then 5 else 0) := Lib.hid rfl
  have HS : Hid (Cl.attS s r = if Cl.attE s.data.toList r = 0 then s ++ Cl.str [r] else ⟨#[]⟩) := Lib.hid rfl
  have hml := Cl.marksOf_len s.data.toList
  unfold Apart at cP
  generalize Cl.attS s r = t at HS ⊢
  generalize Cl.attE s.data.toList r = ae at HS HE ⊢
  generalize Cl.baseOf s.data.toList = b at cP
  generalize Cl.chk s.data.toList = k at HE cP
  generalize Cl.marksOf s.data.toList = ms at HE cP hml
  by_cases hk : k = 0
  · subst hk
    have cM := fun W => mark_any r W
    cases hr : Cl.isMark r
    · have hr' : Cw.hits Cw.marks r = false := hr
      rw [hr'] at cM
      go_enter Tryd.func24, Tryd.ntmps24
      go_wp2_with fail
      refine cP.out.mono ?_
      rintro e w1 ⟨A, n, cap, rfl, hg⟩
      have hb := hg.2.2
      clear hg
      go_wp2_with fail
      refine (cM w1).mono ?_
      rintro e w2 ⟨rfl, b2⟩
      go_wp2
      go_ret2
      have e9 : ae = 9 := by rw [HE.out, if_neg (by simp), if_pos hr]
      have et : t = ⟨#[]⟩ := by rw [HS.out, if_neg (by omega)]
      exact ⟨by rw [e9, et]; rfl, hb.trans (b2.mono hb.size)⟩
    · have hr' : Cw.hits Cw.marks r = true := hr
      rw [hr'] at cM
      by_cases h3 : ms.length = 3
      · go_enter Tryd.func24, Tryd.ntmps24
        go_wp2_with fail
        refine cP.out.mono ?_
        rintro e w1 ⟨A, n, cap, rfl, hg⟩
        have hb := hg.2.2
        have hn : ((n : Int) == 3) = true := by
          have := hg.length
          rw [h3] at this
          simp; omega
        clear hg
        go_wp2_with fail
        refine (cM w1).mono ?_
        rintro e w2 ⟨rfl, b2⟩
        go_wp2
        go_ret2
        have e9 : ae = 5 := by rw [HE.out, if_neg (by simp), if_neg (by rw [hr]; simp), if_pos h3]
        have et : t = ⟨#[]⟩ := by rw [HS.out, if_neg (by omega)]
        exact ⟨by rw [e9, et]; rfl, hb.trans (b2.mono hb.size)⟩
      · obtain ⟨z, hz⟩ : ∃ z, Cl.str [r] = z := ⟨_, rfl⟩
        have hzs : z.size ≤ 4 := by rw [← hz]; exact Cl.str_size [r]
        have cE : ∀ W : World, Calls Tryd.prog 30 #[.slice (some ⟨W.heap.size, 0, none⟩) 1 1] (W.alloc (.cells #[.int .i32 r] 21)) fun e w' => e = .returned (.string z) ∧ W.alloc (.cells #[.int .i32 r] 21) = w' := fun W => hz ▸ encode_any (some ⟨W.heap.size, 0, none⟩) 1 1 (W.heap.size + 1) [r] _ (nums_new W [r] 21 1 rfl)
        have HZ := Lib.hid hz
        clear hz
        have hcat : (s.size : Int) + (z.size : Int) ≤ 304 := by omega
        go_enter Tryd.func24, Tryd.ntmps24
        go_wp2_with fail
        refine cP.out.mono ?_
        rintro e w1 ⟨A, n, cap, rfl, hg⟩
        have hb := hg.2.2
        have hn : ((n : Int) == 3) = false := by
          have := hg.length
          simp; omega
        clear hg
        go_wp2_with fail
        refine (cM w1).mono ?_
        rintro e w2 ⟨rfl, b2⟩
        go_wp2_with fail
        refine (cE w2).mono ?_
        rintro e w3 ⟨rfl, rfl⟩
        have b3 := hb.trans (b2.mono hb.size)
        go_wp2
        go_ret2
        have e9 : ae = 0 := by rw [HE.out, if_neg (by simp), if_neg (by rw [hr]; simp), if_neg h3]
        have et : t = s ++ z := by rw [HS.out, if_pos e9, HZ.out]
        exact ⟨by rw [e9, et]; rfl, b3.alloc b3.size _⟩
  · have hne := nat_ne hk
    go_enter Tryd.func24, Tryd.ntmps24
    go_wp2_with fail
    refine cP.out.mono ?_
    rintro e w1 ⟨A, n, cap, rfl, hg⟩
    have hb := hg.2.2
    clear hg
    go_wp2
    go_ret2
    have e9 : ae = k := by rw [HE.out, if_pos hk]
    have et : t = ⟨#[]⟩ := by rw [HS.out, if_neg (by omega)]
    exact ⟨by rw [e9, et]; rfl, hb⟩

end Go.Proofs.YtjoaaehfplcanaaDoor
