/-
  What utf8stream.Encode and utf8stream.Valid return.
-/
import Derived.Test.YtcljmmadimldlaaDoorUse
import Derived.Test.YtcljmmadimldlaaDoorEncThree
namespace Go.Proofs.YtcljmmadimldlaaDoor
open Go.RowKit Go.Shelf

theorem valid_any (s : ByteArray) (w : World) (hs : s.size ≤ 140737488351232) (hT : Lib.Utf8Tabs 0 1 w) :
    Calls Tryd.prog 59 #[.string s] w fun e w' => e = .returned (.bool (Lib.validD s.data.toList)) ∧ Below w.heap.size w w' := by
  have cV := Lib.hid (Tryd.utf8_ValidString s w (by omega) hT)
  go_enter Tryd.func59, Tryd.ntmps59
  go_wp2_with (go_at_call 74; refine cV.out.mono ?_; rintro e w1 ⟨rfl, hb⟩)
  go_ret
  exact ⟨rfl, hb⟩

end Go.Proofs.YtcljmmadimldlaaDoor
