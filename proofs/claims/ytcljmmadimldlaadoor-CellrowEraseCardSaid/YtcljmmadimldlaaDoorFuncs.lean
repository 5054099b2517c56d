/-
  What Check, Width, Base, Marks and Attach of cluster return, for every string of at most 300 bytes and every number.
-/
import Derived.Test.YtcljmmadimldlaaDoorPieces
import Derived.Test.YtcljmmadimldlaaDoorClMore
namespace Go.Proofs.YtcljmmadimldlaaDoor
open Go.RowKit Go.Shelf

theorem nat_ne {k : Nat} (h : k ≠ 0) : (((k : Nat) : Int) != 0) = true := by simp; omega

set_option maxHeartbeats 400000 in
set_option maxRecDepth 100000 in
theorem check_any (s : ByteArray) (w : World) (hs : s.size ≤ 300) (hT : Lib.Utf8Tabs 0 1 w) :
    Calls Tryd.prog 42 #[.string s] w fun e w' => e = .returned (.int .i64 (Cl.chk s.data.toList : Nat)) ∧ Below w.heap.size w w' := by
  have cP := Lib.hid (parts_any s w hs hT)
  go_enter Tryd.func42, Tryd.ntmps42
  go_wp2_with fail
  refine cP.out.mono ?_
  rintro e w1 ⟨A, n, cap, rfl, hg⟩
  have hb := hg.2.2
  clear hg
  go_wp2
  go_ret
  exact ⟨rfl, hb⟩
set_option maxHeartbeats 400000 in
set_option maxRecDepth 100000 in
theorem widthC_any (s : ByteArray) (w : World) (hs : s.size ≤ 300) (hT : Lib.Utf8Tabs 0 1 w) :
    Calls Tryd.prog 32 #[.string s] w fun e w' => e = .returned (.int .i64 (Cl.widthC s.data.toList)) ∧ Below w.heap.size w w' := by
  have cP := Lib.hid (parts_any s w hs hT)
  have HW : Hid (Cl.widthC s.data.toList = if Cl.chk s.data.toList = 0 then Cw.wd (Cl.baseOf s.data.toList) else 0) := Lib.hid rfl
  unfold Apart at cP
  generalize Cl.widthC s.data.toList = z at HW ⊢
  generalize Cl.baseOf s.data.toList = b at HW cP
  generalize Cl.chk s.data.toList = k at HW cP
  by_cases hk : k = 0
  · subst hk
    go_enter Tryd.func32, Tryd.ntmps32
    go_wp2_with fail
    refine cP.out.mono ?_
    rintro e w1 ⟨A, n, cap, rfl, hg⟩
    have hb := hg.2.2
    clear hg
    go_wp2_with fail
    refine (width_any b w1).mono ?_
    rintro e w2 ⟨rfl, b2⟩
    go_wp2
    go_ret
    exact ⟨ret_int (by rw [HW.out]; simp), hb.trans (b2.mono hb.size)⟩
  · have hne := nat_ne hk
    go_enter Tryd.func32, Tryd.ntmps32
    go_wp2_with fail
    refine cP.out.mono ?_
    rintro e w1 ⟨A, n, cap, rfl, hg⟩
    have hb := hg.2.2
    clear hg
    go_wp2
    go_ret
    exact ⟨ret_int (by rw [HW.out, if_neg hk]), hb⟩
end Go.Proofs.YtcljmmadimldlaaDoor
