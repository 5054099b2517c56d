/-
  What charwidth's functions return; bases and marks.
-/
import Derived.Test.YtgmgnlgolhjhmaaDoorBaseB
import Derived.Test.YtgmgnlgolhjhmaaDoorBaseA
import Derived.WalkKit
import Derived.WalkSpells
import Derived.WalkLawsBesides
import Derived.BigQuiet
import Derived.Deep.QuietTactic
import Derived.Deep.Draws
import Derived.Lib.Hide
import Derived.Deep.Light
import Derived.Deep.LoopGhost
namespace Go.Proofs.YtgmgnlgolhjhmaaDoor
open Go.RowKit

/-- The block g holds, in the world w, the ranges ps, one behind the other. -/
def Tab (w : World) (g : Nat) (ps : List (Int × Int)) : Prop :=
  g < w.heap.size ∧ ∀ j, j < ps.length → w.cell? ⟨g, j * 2, none⟩ = some (.int .i32 (ps.getD j (0, 0)).1) ∧ w.cell? ⟨g, j * 2 + 1, none⟩ = some (.int .i32 (ps.getD j (0, 0)).2)
theorem Tab.below {w w' : World} {B g : Nat} {ps : List (Int × Int)} (h : Tab w g ps) (hb : Below B w w') (hB : w.heap.size ≤ B) : Tab w' g ps :=
  ⟨Nat.lt_of_lt_of_le h.1 (by have := hb.size; omega), fun j hj => ⟨(hb.cell (p := ⟨g, j * 2, none⟩) (Nat.lt_of_lt_of_le h.1 hB)).trans (h.2 j hj).1, (hb.cell (p := ⟨g, j * 2 + 1, none⟩) (Nat.lt_of_lt_of_le h.1 hB)).trans (h.2 j hj).2⟩⟩
/-- The cells of a table. -/
def cellsOf (ps : List (Int × Int)) : List Value := ps.flatMap fun p => [.int .i32 p.1, .int .i32 p.2]
theorem cellsOf_get (ps : List (Int × Int)) (j : Nat) (hj : j < ps.length) : (cellsOf ps)[j * 2]? = some (.int .i32 (ps.getD j (0, 0)).1) ∧ (cellsOf ps)[j * 2 + 1]? = some (.int .i32 (ps.getD j (0, 0)).2) := by
  induction ps generalizing j with
  | nil => cases hj
  | cons p ps ih =>
    cases j with
    | zero => exact ⟨rfl, rfl⟩
    | succ j =>
      have hj' : j < ps.length := by simpa using hj
      have e1 : (j + 1) * 2 = j * 2 + 2 := by omega
      have e2 : (j + 1) * 2 + 1 = j * 2 + 1 + 2 := by omega
      have h := ih j hj'
      rw [e2, e1]
      exact h
theorem Tab.laid (w : World) (ps : List (Int × Int)) (t : TypeId) : Tab (w.alloc (.cells (cellsOf ps).toArray t)) w.heap.size ps := by
  refine ⟨by simp, fun j hj => ?_⟩
  have h := cellsOf_get ps j hj
  have e : (w.alloc (.cells (cellsOf ps).toArray t)).heap[w.heap.size]? = some (.cells (cellsOf ps).toArray t) := heap_alloc_new w _
  unfold World.cell?
  rw [e]
  exact ⟨by simpa using h.1, by simpa using h.2⟩

set_option maxHeartbeats 400000 in
set_option maxRecDepth 100000 in
theorem wide_any (w : World) :
    Calls Tryd.prog 81 #[] w fun e w' => e = .returned (.slice (some ⟨w.heap.size, 0, none⟩) 14 14) ∧ w' = w.alloc (.cells (cellsOf Cw.wide).toArray 108) := by
  go_enter Tryd.func81, Tryd.ntmps81
  go_wp2
  go_ret
  exact ⟨rfl, rfl⟩
set_option maxHeartbeats 400000 in
set_option maxRecDepth 100000 in
theorem refWide_any (w : World) :
    Calls Tryd.prog 73 #[] w fun e w' => e = .returned (.slice (some ⟨w.heap.size, 0, none⟩) 14 14) ∧ w' = w.alloc (.cells (cellsOf Cw.wide).toArray 108) := by
  go_enter Tryd.func73, Tryd.ntmps73
  go_wp2
  go_ret
  exact ⟨rfl, rfl⟩
set_option maxHeartbeats 400000 in
set_option maxRecDepth 100000 in
theorem marks_any (w : World) :
    Calls Tryd.prog 88 #[] w fun e w' => e = .returned (.slice (some ⟨w.heap.size, 0, none⟩) 7 7) ∧ w' = w.alloc (.cells (cellsOf Cw.marks).toArray 108) := by
  go_enter Tryd.func88, Tryd.ntmps88
  go_wp2
  go_ret
  exact ⟨rfl, rfl⟩
set_option maxHeartbeats 400000 in
set_option maxRecDepth 100000 in
theorem refMarks_any (w : World) :
    Calls Tryd.prog 72 #[] w fun e w' => e = .returned (.slice (some ⟨w.heap.size, 0, none⟩) 7 7) ∧ w' = w.alloc (.cells (cellsOf Cw.marks).toArray 108) := by
  go_enter Tryd.func72, Tryd.ntmps72
  go_wp2
  go_ret
  exact ⟨rfl, rfl⟩

/-- What a call of one of the four tables leaves. -/
theorem table_of {f n : Nat} {ps : List (Int × Int)} {w : World} (h : Calls Tryd.prog f #[] w fun e w' => e = .returned (.slice (some ⟨w.heap.size, 0, none⟩) n n) ∧ w' = w.alloc (.cells (cellsOf ps).toArray 108)) :
    Calls Tryd.prog f #[] w fun e w' => e = .returned (.slice (some ⟨w.heap.size, 0, none⟩) n n) ∧ Tab w' w.heap.size ps ∧ Below w.heap.size w w' :=
  h.mono fun _ _ ⟨he, hw⟩ => ⟨he, hw ▸ Tab.laid w ps _, hw ▸ (Below.refl _ w).alloc (Nat.le_refl _) _⟩


set_option maxRecDepth 100000 in
theorem control_any (r : Int) (w : World) : Calls Tryd.prog 78 #[.int .i32 r] w fun e w' => e = .returned (.bool (Cw.ctl r)) ∧ w = w' := by
  have hR := Lib.hid (show Cw.ctl r = true ↔ _ from Cw.ctl_iff r)
  go_enter Tryd.func78, Tryd.ntmps78
  go_wp2
  all_goals
    go_ret
    refine ⟨ret_bool ?_, rfl⟩
    have hr := hR.out
    clear hR
    rw [Bool.eq_iff_iff, hr]
    simp
    try omega

end Go.Proofs.YtgmgnlgolhjhmaaDoor

namespace Go.Proofs.YtgmgnlgolhjhmaaDoor
open Go.RowKit

set_option maxRecDepth 100000 in
/-- The closure of within: the entry's two numbers, and r in the cell of block p. -/
theorem entry_any (a b r : Int) (p : Nat) (w : World) (hp : w.cell? ⟨p, 0, none⟩ = some (.int .i32 r)) (hlt : p < w.heap.size) :
    Calls Tryd.prog 90 #[.agg #[.int .i32 a, .int .i32 b], .pointer (some ⟨p, 0, none⟩)] w fun e w' => e = .returned (.bool (Cw.hit (a, b) r)) ∧ Below w.heap.size w w' := by
  have hne : p ≠ w.heap.size := by omega
  by_cases h1 : a ≤ r <;> by_cases h2 : r ≤ b
  all_goals
    go_enter Tryd.func90, Tryd.ntmps90
    go_wp2
    go_ret
    exact ⟨ret_bool (by simp [Cw.hit, h1, h2]), (Below.refl _ w).alloc (Nat.le_refl _) _⟩

set_option maxHeartbeats 1000000 in
set_option maxRecDepth 100000 in
theorem index_any (g n c p : Nat) (r : Int) (ps : List (Int × Int)) (w : World) (hn : ps.length = n) (hbig : n ≤ 1000) (hT : Tab w g ps) (hp : w.cell? ⟨p, 0, none⟩ = some (.int .i32 r)) (hlt : p < w.heap.size) :
    Calls Tryd.prog 92 #[.slice (some ⟨g, 0, none⟩) n c, .func (.func 90) #[] #[.pointer (some ⟨p, 0, none⟩)]] w
      fun e w' => (∃ z : Int, e = .returned (.int .i64 z) ∧ decide (0 ≤ z) = Cw.hits ps r) ∧ Below w.heap.size w w' := by
  go_enter Tryd.func92, Tryd.ntmps92
  go_wp2
  go_loopg [5, 8] n (fun gg _ s8 wr => ∃ k : Nat, k ≤ n ∧ n - k ≤ gg ∧ s8 = .int .i64 k ∧ Aside (Below w.heap.size w wr) ∧ Aside (∀ j, j < k → Cw.hit (ps.getD j (0, 0)) r = false))
  case atStart => exact ⟨0, Nat.zero_le _, by omega, rfl, Below.refl _ w, fun j hj => absurd hj (Nat.not_lt_zero _)⟩
  case round =>
    obtain ⟨k, hk, hg, rfl, BW, A⟩ := hrel
    by_cases hkn : k < n
    · have hz : (k : Int) < (n : Int) := by omega
      have hz0 : (0 : Int) ≤ (k : Int) := by omega
      obtain ⟨c1, c2⟩ := hT.2 k (by omega)
      have d1 := (BW.out.cell (p := ⟨g, k * 2, none⟩) hT.1).trans c1
      have d2 := (BW.out.cell (p := ⟨g, k * 2 + 1, none⟩) hT.1).trans c2
      have hpp := (BW.out.cell (p := ⟨p, 0, none⟩) hlt).trans hp
      have hsz := BW.out.size
      have hcall := entry_any (ps.getD k (0, 0)).1 (ps.getD k (0, 0)).2 r p wr hpp (by omega)
      have HT := Lib.hid hT
      clear hT hp hpp c1 c2
      obtain ⟨y, hy⟩ : ∃ y, ps.getD k (0, 0) = y := ⟨_, rfl⟩
      rw [hy] at d1 d2 hcall
      have HY := Lib.hid hy
      clear hy
      obtain ⟨a, b⟩ := y
      cases hq : Cw.hit (a, b) r with
      | true =>
        rw [hq] at hcall
        have HQ := Lib.hid hq
        clear hq
        go_wp2_with (go_at_call 90; refine hcall.mono ?_; rintro e w' ⟨rfl, hb'⟩)
        go_ret
        refine ⟨⟨_, rfl, ?_⟩, BW.out.trans (hb'.mono hsz)⟩
        rw [Cw.hits_of k (by omega) (by rw [HY.out]; exact HQ.out)]
        simp
      | false =>
        rw [hq] at hcall
        have HQ := Lib.hid hq
        clear hq
        go_wp2_with (go_at_call 90; refine hcall.mono ?_; rintro e w' ⟨rfl, hb'⟩)
        go_roundg (n - (k + 1))
        case measure => omega
        case rel =>
          refine ⟨k + 1, by omega, by omega, by go_num, BW.out.trans (hb'.mono hsz), (show Aside _ from fun j hj => ?_)⟩
          by_cases e : j = k
          · subst e
            rw [HY.out]; exact HQ.out
          · exact A.out j (by omega)
    · have hz : ¬ (k : Int) < (n : Int) := by omega
      have HT := Lib.hid hT
      clear hT
      go_wp2
      go_ret
      refine ⟨⟨_, rfl, ?_⟩, BW.out⟩
      rw [Cw.hits_none (fun j hj => A.out j (by omega))]
      rfl

end Go.Proofs.YtgmgnlgolhjhmaaDoor

namespace Go.Proofs.YtgmgnlgolhjhmaaDoor
open Go.RowKit

set_option maxHeartbeats 400000 in
set_option maxRecDepth 100000 in
theorem contains_any (g n c p : Nat) (r : Int) (ps : List (Int × Int)) (w : World) (hn : ps.length = n) (hbig : n ≤ 1000) (hT : Tab w g ps) (hp : w.cell? ⟨p, 0, none⟩ = some (.int .i32 r)) (hlt : p < w.heap.size) :
    Calls Tryd.prog 89 #[.slice (some ⟨g, 0, none⟩) n c, .func (.func 90) #[] #[.pointer (some ⟨p, 0, none⟩)]] w
      fun e w' => e = .returned (.bool (Cw.hits ps r)) ∧ Below w.heap.size w w' := by
  have hcall := index_any g n c p r ps w hn hbig hT hp hlt
  generalize Cw.hits ps r = q at hcall ⊢
  clear hT hp
  go_enter Tryd.func89, Tryd.ntmps89
  go_wp2_with (go_at_call 92; refine hcall.mono ?_; rintro e w' ⟨⟨z, rfl, hz⟩, hb'⟩; have HZ := Lib.hid hz; clear hz)
  all_goals
    go_ret
    exact ⟨ret_bool HZ.out, hb'⟩

set_option maxHeartbeats 400000 in
set_option maxRecDepth 100000 in
theorem within_any (g n c : Nat) (r : Int) (ps : List (Int × Int)) (w : World) (hn : ps.length = n) (hbig : n ≤ 1000) (hT : Tab w g ps) :
    Calls Tryd.prog 80 #[.slice (some ⟨g, 0, none⟩) n c, .int .i32 r] w fun e w' => e = .returned (.bool (Cw.hits ps r)) ∧ Below w.heap.size w w' := by
  have hcall := contains_any g n c w.heap.size r ps (w.alloc (.cells #[.int .i32 r] 21)) hn hbig (hT.below ((Below.refl _ w).alloc (Nat.le_refl _) _) (Nat.le_refl _)) (by simp) (by simp)
  generalize Cw.hits ps r = q at hcall ⊢
  clear hT
  have hmf : ∀ (fn : Fn) (first cap : Array Value) (w : World), (Instr.makeFunc fn first cap).run Tryd.prog w = .ok (.func fn first cap) w := fun _ _ _ _ => rfl
  go_enter Tryd.func80, Tryd.ntmps80
  go_wp2_with (go_at_call 89; refine hcall.mono ?_; rintro e w' ⟨rfl, hb'⟩)
  go_ret
  exact ⟨rfl, ((Below.refl _ w).alloc (Nat.le_refl _) _).trans (hb'.mono (by simp))⟩

end Go.Proofs.YtgmgnlgolhjhmaaDoor

namespace Go.Proofs.YtgmgnlgolhjhmaaDoor
open Go.RowKit

set_option maxHeartbeats 400000 in
set_option maxRecDepth 100000 in
theorem mark_any (r : Int) (w : World) : Calls Tryd.prog 79 #[.int .i32 r] w fun e w' => e = .returned (.bool (Cw.hits Cw.marks r)) ∧ Below w.heap.size w w' := by
  have htab := table_of (marks_any w)
  have hlen : Cw.marks.length = 7 := rfl
  have HL := Lib.hid hlen
  clear hlen
  generalize Cw.marks = ps at htab HL ⊢
  go_enter Tryd.func79, Tryd.ntmps79
  go_wp2_with fail
  refine htab.mono ?_
  rintro e w1 ⟨rfl, hT, hb⟩
  have hcall := within_any w.heap.size 7 7 r ps w1 HL.out (by decide) hT
  clear hT htab
  go_wp2_with fail
  refine hcall.mono ?_
  rintro e w2 ⟨rfl, hb2⟩
  go_wp2
  go_ret
  exact ⟨rfl, hb.trans (hb2.mono hb.size)⟩

set_option maxHeartbeats 400000 in
set_option maxRecDepth 100000 in
theorem width_any (r : Int) (w : World) : Calls Tryd.prog 67 #[.int .i32 r] w fun e w' => e = .returned (.int .i64 (Cw.wd r)) ∧ Below w.heap.size w w' := by
  have hctl := control_any r w
  have hmark := mark_any r w
  have hwide := fun w' : World => table_of (wide_any w')
  have hlen : Cw.wide.length = 14 := rfl
  have HL := Lib.hid hlen
  clear hlen
  obtain ⟨z, hz⟩ : ∃ z, Cw.wd r = z := ⟨_, rfl⟩
  rw [hz]
  unfold Cw.wd at hz
  have HW := Lib.hid hz
  clear hz
  generalize Cw.marks = ms at hmark HW
  generalize Cw.wide = ps at hwide HL HW
  cases h1 : Cw.ctl r
  · rw [h1] at hctl HW
    cases h2 : Cw.hits ms r
    · rw [h2] at hmark HW
      cases h3 : Cw.hits ps r
      all_goals
        rw [h3] at HW
        clear h1 h2
        go_enter Tryd.func67, Tryd.ntmps67
        go_wp2_with fail
        refine hctl.mono ?_
        rintro e w0 ⟨rfl, rfl⟩
        go_wp2_with fail
        refine hmark.mono ?_
        rintro e w1 ⟨rfl, hb1⟩
        go_wp2_with fail
        refine (hwide w1).mono ?_
        rintro e w2 ⟨rfl, hT, hb2⟩
        have hcall := within_any w1.heap.size 14 14 r ps w2 HL.out (by decide) hT
        rw [h3] at hcall
        clear hT
        go_wp2_with fail
        refine hcall.mono ?_
        rintro e w3 ⟨rfl, hb3⟩
        go_wp2
        go_ret
        exact ⟨ret_int (by have := HW.out; simpa using this), (hb1.trans (hb2.mono hb1.size)).trans (hb3.mono (Nat.le_trans hb1.size hb2.size))⟩
    · rw [h2] at hmark HW
      clear h1 h2 hwide
      go_enter Tryd.func67, Tryd.ntmps67
      go_wp2_with fail
      refine hctl.mono ?_
      rintro e w0 ⟨rfl, rfl⟩
      go_wp2_with fail
      refine hmark.mono ?_
      rintro e w1 ⟨rfl, hb1⟩
      go_wp2
      go_ret
      exact ⟨ret_int (by have := HW.out; simpa using this), hb1⟩
  · rw [h1] at hctl HW
    clear h1 hmark hwide
    go_enter Tryd.func67, Tryd.ntmps67
    go_wp2_with fail
    refine hctl.mono ?_
    rintro e w0 ⟨rfl, rfl⟩
    go_wp2
    go_ret
    exact ⟨ret_int (by have := HW.out; simpa using this), Below.refl _ _⟩

end Go.Proofs.YtgmgnlgolhjhmaaDoor

namespace Go.Proofs.YtgmgnlgolhjhmaaDoor
open Go.RowKit

set_option maxRecDepth 100000 in
theorem isBase_any (r : Int) (w : World) : Calls Tryd.prog 75 #[.int .i32 r] w fun e w' => e = .returned (.bool (Cl.isBase r)) ∧ Below w.heap.size w w' := by
  have cW := width_any r w
  have HB : Hid (Cl.isBase r = decide (0 < Cw.wd r)) := Lib.hid rfl
  generalize Cw.wd r = z at cW HB
  go_enter Tryd.func75, Tryd.ntmps75
  go_wp2_with fail
  refine cW.mono ?_
  rintro e w1 ⟨rfl, hb⟩
  go_wp2
  go_ret
  exact ⟨ret_bool (by rw [HB.out]), hb⟩
set_option maxRecDepth 100000 in
theorem isNoMark_any (r : Int) (w : World) : Calls Tryd.prog 77 #[.int .i32 r] w fun e w' => e = .returned (.bool (!Cl.isMark r)) ∧ Below w.heap.size w w' := by
  have cW := mark_any r w
  have HB : Hid (Cl.isMark r = Cw.hits Cw.marks r) := Lib.hid rfl
  generalize Cw.hits Cw.marks r = z at cW HB
  go_enter Tryd.func77, Tryd.ntmps77
  go_wp2_with fail
  refine cW.mono ?_
  rintro e w1 ⟨rfl, hb⟩
  go_wp2
  go_ret
  exact ⟨ret_bool (by rw [HB.out]), hb⟩

set_option maxHeartbeats 1000000 in
set_option maxRecDepth 100000 in
theorem indexR_any (A : Option Addr) (n c B : Nat) (xs : List Int) (w : World) (hB : B ≤ w.heap.size) (hX : Nums w B A n xs) (hbig : n ≤ 1000) :
    Calls Tryd.prog 87 #[.slice A n c, .func (.func 77) #[] #[]] w
      fun e w' => (∃ z : Int, e = .returned (.int .i64 z) ∧ decide (0 ≤ z) = !xs.all Cl.isMark) ∧ Below w.heap.size w w' := by
  go_enter Tryd.func87, Tryd.ntmps87
  go_wp2
  go_loopg [5, 8] n (fun gg _ s8 wr => ∃ k : Nat, k ≤ n ∧ n - k ≤ gg ∧ s8 = .int .i64 k ∧ Aside (Below w.heap.size w wr) ∧ Aside (∀ j, j < k → Cl.isMark (xs.getD j 0) = true))
  case atStart => exact ⟨0, Nat.zero_le _, by omega, rfl, Below.refl _ w, fun j hj => absurd hj (Nat.not_lt_zero _)⟩
  case round =>
    obtain ⟨k, hk, hg, rfl, BW, A'⟩ := hrel
    have hlen := hX.1
    have HL := Lib.hid hlen
    clear hlen
    by_cases hkn : k < n
    · have hz : (k : Int) < (n : Int) := by omega
      have hz0 : (0 : Int) ≤ (k : Int) := by omega
      obtain ⟨b, off, rfl, hb, hc⟩ := hX.2 k hkn
      have hc1 := (BW.out.cell (p := ⟨b, off + k, none⟩) (Nat.lt_of_lt_of_le hb hB)).trans hc
      have hsz := BW.out.size
      have hcall := isNoMark_any (xs.getD k 0) wr
      have HX := Lib.hid hX
      clear hX hc
      obtain ⟨y, hy⟩ : ∃ y, xs.getD k 0 = y := ⟨_, rfl⟩
      rw [hy] at hc1 hcall
      have HY := Lib.hid hy
      clear hy
      cases hq : Cl.isMark y with
      | false =>
        rw [hq] at hcall
        have HQ := Lib.hid hq
        clear hq
        go_wp2_with (go_at_call 77; refine hcall.mono ?_; rintro e w' ⟨rfl, hb'⟩)
        go_ret
        refine ⟨⟨_, rfl, ?_⟩, BW.out.trans (hb'.mono hsz)⟩
        have hf : xs.all Cl.isMark = false := by
          rw [List.all_eq_false]
          have hkx : k < xs.length := by rw [HL.out]; exact hkn
          refine ⟨xs[k], List.getElem_mem hkx, ?_⟩
          have e : xs[k] = y := by rw [← HY.out]; simp [hkx]
          rw [e, HQ.out]
          simp
        rw [hf]
        simp
      | true =>
        rw [hq] at hcall
        have HQ := Lib.hid hq
        clear hq
        go_wp2_with (go_at_call 77; refine hcall.mono ?_; rintro e w' ⟨rfl, hb'⟩)
        go_roundg (n - (k + 1))
        case measure => omega
        case rel =>
          refine ⟨k + 1, by omega, by omega, by go_num, BW.out.trans (hb'.mono hsz), (show Aside _ from fun j hj => ?_)⟩
          by_cases e : j = k
          · subst e
            rw [HY.out]; exact HQ.out
          · exact A'.out j (by omega)
    · have hz : ¬ (k : Int) < (n : Int) := by omega
      have HX := Lib.hid hX
      clear hX
      go_wp2
      go_ret
      refine ⟨⟨_, rfl, ?_⟩, BW.out⟩
      have hf : xs.all Cl.isMark = true := by
        rw [List.all_eq_true]
        intro z hz'
        obtain ⟨j, hj, rfl⟩ := List.mem_iff_getElem.1 hz'
        have := A'.out j (by rw [HL.out] at hj; omega)
        simpa [hj] using this
      rw [hf]
      rfl

set_option maxHeartbeats 400000 in
set_option maxRecDepth 100000 in
theorem containsR_any (A : Option Addr) (n c B : Nat) (xs : List Int) (w : World) (hB : B ≤ w.heap.size) (hX : Nums w B A n xs) (hbig : n ≤ 1000) :
    Calls Tryd.prog 76 #[.slice A n c, .func (.func 77) #[] #[]] w
      fun e w' => e = .returned (.bool (!xs.all Cl.isMark)) ∧ Below w.heap.size w w' := by
  have hcall := indexR_any A n c B xs w hB hX hbig
  generalize (!xs.all Cl.isMark) = q at hcall ⊢
  clear hX
  go_enter Tryd.func76, Tryd.ntmps76
  go_wp2_with (go_at_call 87; refine hcall.mono ?_; rintro e w' ⟨⟨z, rfl, hz⟩, hb'⟩; have HZ := Lib.hid hz; clear hz)
  all_goals
    go_ret
    exact ⟨ret_bool HZ.out, hb'⟩

end Go.Proofs.YtgmgnlgolhjhmaaDoor
