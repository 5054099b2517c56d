/-
  What isBase and isNoMark of cluster return, for every number; the search of a slice of numbers for one that is no mark.
-/
import Derived.Test.YtcljmmadimldlaaDoorOut
import Derived.Test.YtcljmmadimldlaaDoorClMath
import Derived.Test.YtcljmmadimldlaaDoorWidth
namespace Go.Proofs.YtcljmmadimldlaaDoor
open Go.RowKit

set_option maxRecDepth 100000 in
theorem isBase_any (r : Int) (w : World) : Calls Tryd.prog 60 #[.int .i32 r] w fun e w' => e = .returned (.bool (Cl.isBase r)) ∧ Below w.heap.size w w' := by
  have cW := width_any r w
  have HB : Hid (Cl.isBase r = decide (0 < Cw.wd r)) := Lib.hid rfl
  generalize Cw.wd r = z at cW HB
  go_enter Tryd.func60, Tryd.ntmps60
  go_wp2_with fail
  refine cW.mono ?_
  rintro e w1 ⟨rfl, hb⟩
  go_wp2
  go_ret
  exact ⟨ret_bool (by rw [HB.out]), hb⟩
set_option maxRecDepth 100000 in
theorem isNoMark_any (r : Int) (w : World) : Calls Tryd.prog 62 #[.int .i32 r] w fun e w' => e = .returned (.bool (!Cl.isMark r)) ∧ Below w.heap.size w w' := by
  have cW := mark_any r w
  have HB : Hid (Cl.isMark r = Cw.hits Cw.marks r) := Lib.hid rfl
  generalize Cw.hits Cw.marks r = z at cW HB
  go_enter Tryd.func62, Tryd.ntmps62
  go_wp2_with fail
  refine cW.mono ?_
  rintro e w1 ⟨rfl, hb⟩
  go_wp2
  go_ret
  exact ⟨ret_bool (by rw [HB.out]), hb⟩

set_option maxHeartbeats 1000000 in
set_option maxRecDepth 100000 in
theorem indexR_any (A : Option Addr) (n c B : Nat) (xs : List Int) (w : World) (hB : B ≤ w.heap.size) (hX : Nums w B A n xs) (hbig : n ≤ 1000) :
    Calls Tryd.prog 75 #[.slice A n c, .func (.func 62) #[] #[]] w
      fun e w' => (∃ z : Int, e = .returned (.int .i64 z) ∧ decide (0 ≤ z) = !xs.all Cl.isMark) ∧ Below w.heap.size w w' := by
  go_enter Tryd.func75, Tryd.ntmps75
  go_wp2
  go_loopg [5, 8] n (fun gg _ s8 wr => ∃ k : Nat, k ≤ n ∧ n - k ≤ gg ∧ s8 = .int .i64 k ∧ Aside (Below w.heap.size w wr) ∧ Aside (∀ j, j < k → Cl.isMark (xs.getD j 0) = true))
  case atStart => exact ⟨0, Nat.zero_le _, by omega, rfl, Below.refl _ w, fun j hj => absurd hj (Nat.not_lt_zero _)⟩
  case round =>
    obtain ⟨k, hk, hg, rfl, BW, A'⟩ := hrel
    have hlen := hX.1
    have HL := Lib.hid hlen
    clear hlen
    by_cases hkn : k < n
    · have hz : (k : Int) < (n : Int) := by omega
      have hz0 : (0 : Int) ≤ (k : Int) := by omega
      obtain ⟨b, off, rfl, hb, hc⟩ := hX.2 k hkn
      have hc1 := (BW.out.cell (p := ⟨b, off + k, none⟩) (Nat.lt_of_lt_of_le hb hB)).trans hc
      have hsz := BW.out.size
      have hcall := isNoMark_any (xs.getD k 0) wr
      have HX := Lib.hid hX
      clear hX hc
      obtain ⟨y, hy⟩ : ∃ y, xs.getD k 0 = y := ⟨_, rfl⟩
      rw [hy] at hc1 hcall
      have HY := Lib.hid hy
      clear hy
      cases hq : Cl.isMark y with
      | false =>
        rw [hq] at hcall
        have HQ := Lib.hid hq
        clear hq
        go_wp2_with (go_at_call 62; refine hcall.mono ?_; rintro e w' ⟨rfl, hb'⟩)
        go_ret
        refine ⟨⟨_, rfl, ?_⟩, BW.out.trans (hb'.mono hsz)⟩
        have hf : xs.all Cl.isMark = false := by
          rw [List.all_eq_false]
          have hkx : k < xs.length := by rw [HL.out]; exact hkn
          refine ⟨xs[k], List.getElem_mem hkx, ?_⟩
          have e : xs[k] = y := by rw [← HY.out]; simp [hkx]
          rw [e, HQ.out]
          simp
        rw [hf]
        simp
      | true =>
        rw [hq] at hcall
        have HQ := Lib.hid hq
        clear hq
        go_wp2_with (go_at_call 62; refine hcall.mono ?_; rintro e w' ⟨rfl, hb'⟩)
        go_roundg (n - (k + 1))
        case measure => omega
        case rel =>
          refine ⟨k + 1, by omega, by omega, by go_num, BW.out.trans (hb'.mono hsz), (show Aside _ from fun j hj => ?_)⟩
          by_cases e : j = k
          · subst e
            rw [HY.out]; exact HQ.out
          · exact A'.out j (by omega)
    · have hz : ¬ (k : Int) < (n : Int) := by omega
      have HX := Lib.hid hX
      clear hX
      go_wp2
      go_ret
      refine ⟨⟨_, rfl, ?_⟩, BW.out⟩
      have hf : xs.all Cl.isMark = true := by
        rw [List.all_eq_true]
        intro z hz'
        obtain ⟨j, hj, rfl⟩ := List.mem_iff_getElem.1 hz'
        have := A'.out j (by rw [HL.out] at hj; omega)
        simpa [hj] using this
      rw [hf]
      rfl

set_option maxHeartbeats 400000 in
set_option maxRecDepth 100000 in
theorem containsR_any (A : Option Addr) (n c B : Nat) (xs : List Int) (w : World) (hB : B ≤ w.heap.size) (hX : Nums w B A n xs) (hbig : n ≤ 1000) :
    Calls Tryd.prog 61 #[.slice A n c, .func (.func 62) #[] #[]] w
      fun e w' => e = .returned (.bool (!xs.all Cl.isMark)) ∧ Below w.heap.size w w' := by
  have hcall := indexR_any A n c B xs w hB hX hbig
  generalize (!xs.all Cl.isMark) = q at hcall ⊢
  clear hX
  go_enter Tryd.func61, Tryd.ntmps61
  go_wp2_with (go_at_call 75; refine hcall.mono ?_; rintro e w' ⟨⟨z, rfl, hz⟩, hb'⟩; have HZ := Lib.hid hz; clear hz)
  all_goals
    go_ret
    exact ⟨ret_bool HZ.out, hb'⟩

end Go.Proofs.YtcljmmadimldlaaDoor
