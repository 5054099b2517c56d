/-
  What slices.ContainsFunc and within return over a table, for every number.
-/
import Derived.Test.YtcljmmadimldlaaDoorWithin
namespace Go.Proofs.YtcljmmadimldlaaDoor
open Go.RowKit

set_option maxHeartbeats 400000 in
set_option maxRecDepth 100000 in
theorem contains_any (g n c p : Nat) (r : Int) (ps : List (Int × Int)) (w : World) (hn : ps.length = n) (hbig : n ≤ 1000) (hT : Tab w g ps) (hp : w.cell? ⟨p, 0, none⟩ = some (.int .i32 r)) (hlt : p < w.heap.size) :
    Calls Tryd.prog 77 #[.slice (some ⟨g, 0, none⟩) n c, .func (.func 78) #[] #[.pointer (some ⟨p, 0, none⟩)]] w
      fun e w' => e = .returned (.bool (Cw.hits ps r)) ∧ Below w.heap.size w w' := by
  have hcall := index_any g n c p r ps w hn hbig hT hp hlt
  generalize Cw.hits ps r = q at hcall ⊢
  clear hT hp
  go_enter Tryd.func77, Tryd.ntmps77
  go_wp2_with (go_at_call 84; refine hcall.mono ?_; rintro e w' ⟨⟨z, rfl, hz⟩, hb'⟩; have HZ := Lib.hid hz; clear hz)
  all_goals
    go_ret
    exact ⟨ret_bool HZ.out, hb'⟩

set_option maxHeartbeats 400000 in
set_option maxRecDepth 100000 in
theorem within_any (g n c : Nat) (r : Int) (ps : List (Int × Int)) (w : World) (hn : ps.length = n) (hbig : n ≤ 1000) (hT : Tab w g ps) :
    Calls Tryd.prog 65 #[.slice (some ⟨g, 0, none⟩) n c, .int .i32 r] w fun e w' => e = .returned (.bool (Cw.hits ps r)) ∧ Below w.heap.size w w' := by
  have hcall := contains_any g n c w.heap.size r ps (w.alloc (.cells #[.int .i32 r] 21)) hn hbig (hT.below ((Below.refl _ w).alloc (Nat.le_refl _) _) (Nat.le_refl _)) (by simp) (by simp)
  generalize Cw.hits ps r = q at hcall ⊢
  clear hT
  have hmf : ∀ (fn : Fn) (first cap : Array Value) (w : World), (Instr.makeFunc fn first cap).run Tryd.prog w = .ok (.func fn first cap) w := fun _ _ _ _ => rfl
  go_enter Tryd.func65, Tryd.ntmps65
  go_wp2_with (go_at_call 77; refine hcall.mono ?_; rintro e w' ⟨rfl, hb'⟩)
  go_ret
  exact ⟨rfl, ((Below.refl _ w).alloc (Nat.le_refl _) _).trans (hb'.mono (by simp))⟩

end Go.Proofs.YtcljmmadimldlaaDoor
