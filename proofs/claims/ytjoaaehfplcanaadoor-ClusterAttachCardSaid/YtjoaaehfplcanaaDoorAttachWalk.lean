/-
  The statement that compares Attach with the document's own returns true, for every string and every number.
-/
import Derived.Test.YtjoaaehfplcanaaDoorAwake
import Derived.Test.YtjoaaehfplcanaaDoorRefMore
namespace Go.Proofs.YtjoaaehfplcanaaDoor
open Go.RowKit Go.Shelf

set_option maxHeartbeats 1000000 in
set_option maxRecDepth 100000 in
theorem attach_walk (s : ByteArray) (r : Int) (w : World) (hs : s.size ≤ 140737488351232) (hr0 : -2147483648 ≤ r) (hr1 : r ≤ 2147483647) (hT : Lib.Utf8Tabs 0 1 w) :
    Calls Tryd.prog 5 #[.string s, .int .i32 r] w fun e w' => e = .returned (.bool true) ∧ Below w.heap.size w w' := by
  by_cases hbig : 200 < s.size
  · have hbz : (200 : Int) < (s.size : Int) := by omega
    have cA := Lib.hid (awake_true w hT)
    go_enter Tryd.func5, Tryd.ntmps5
    go_wp2_with fail
    refine cA.out.mono ?_
    rintro e w1 ⟨rfl, hb⟩
    go_wp2
    go_ret
    exact ⟨rfl, hb⟩
  · have hbz : ¬ (200 : Int) < (s.size : Int) := by omega
    have c1 := Lib.hid (attachC_any s r w (by omega) hT)
    have c2 := Lib.hid (fun W => refattach_any s r W (by omega) hr0 hr1)
    generalize Cl.attS s r = t at c1 c2
    generalize Cl.attE s.data.toList r = ae at c1 c2
    go_enter Tryd.func5, Tryd.ntmps5
    go_wp2_with fail
    refine c1.out.mono ?_
    rintro e w1 ⟨rfl, b1⟩
    have T1 := Utf8Tabs_below hT b1
    go_wp2_with fail
    refine (c2.out w1).mono ?_
    rintro e w2 ⟨rfl, b2⟩
    have T2 := Utf8Tabs_below T1 b2
    have b3 := b1.trans (b2.mono b1.size)
    have cA := Lib.hid (awake_true w2 T2)
    go_wp2_with fail
    refine cA.out.mono ?_
    rintro e w3 ⟨rfl, b4⟩
    go_wp2
    go_ret
    exact ⟨rfl, b3.trans (b4.mono b3.size)⟩

end Go.Proofs.YtjoaaehfplcanaaDoor
