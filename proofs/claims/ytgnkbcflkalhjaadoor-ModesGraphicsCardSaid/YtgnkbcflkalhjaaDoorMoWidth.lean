/-
  What Width of charwidth returns, for every number.
-/
import Derived.Test.YtgnkbcflkalhjaaDoorProg
import Derived.WalkKit
import Derived.WalkSpells
import Derived.WalkLawsBesides
import Derived.BigQuiet
import Derived.Deep.QuietTactic
import Derived.Deep.Draws
import Derived.Lib.Hide
import Derived.Deep.Light
import Derived.Deep.LoopGhost
namespace Go.Proofs.YtgnkbcflkalhjaaDoor.Chw.Cw

/-- r is in the range p. -/
def hit (p : Int × Int) (r : Int) : Bool := decide (p.1 ≤ r) && decide (r ≤ p.2)
/-- r is in one of the ranges. -/
def hits (ps : List (Int × Int)) (r : Int) : Bool := ps.any fun p => hit p r
def wide : List (Int × Int) :=
  [(4352, 4447), (11904, 12350), (12353, 13311), (13312, 19903), (19968, 40959), (40960, 42191), (44032, 55203), (63744, 64255), (65072, 65135), (65280, 65376), (65504, 65510), (127744, 128591), (129280, 129535), (131072, 262141)]
def marks : List (Int × Int) :=
  [(768, 879), (6832, 6911), (7616, 7679), (8203, 8207), (8400, 8447), (65024, 65039), (65056, 65071)]
def ctl (r : Int) : Bool := decide (r < 32) || (decide (127 ≤ r) && decide (r ≤ 159))
/-- The width of a number. -/
def wd (r : Int) : Int := if ctl r = true then -1 else if hits marks r = true then 0 else if hits wide r = true then 2 else 1

theorem hits_of {ps : List (Int × Int)} {r : Int} (k : Nat) (hk : k < ps.length) (h : hit (ps.getD k (0, 0)) r = true) : hits ps r = true := by
  unfold hits
  rw [List.any_eq_true]
  refine ⟨ps[k], List.getElem_mem hk, ?_⟩
  simpa [List.getD_eq_getElem?_getD, hk] using h
theorem hits_none {ps : List (Int × Int)} {r : Int} (h : ∀ k, k < ps.length → hit (ps.getD k (0, 0)) r = false) : hits ps r = false := by
  unfold hits
  rw [List.any_eq_false]
  intro p hp
  obtain ⟨k, hk, rfl⟩ := List.mem_iff_getElem.1 hp
  have := h k hk
  simp [List.getD_eq_getElem?_getD, hk] at this
  simp [this]

theorem hits_marks (r : Int) : hits marks r = true ↔ (768 ≤ r ∧ r ≤ 879) ∨ (6832 ≤ r ∧ r ≤ 6911) ∨ (7616 ≤ r ∧ r ≤ 7679) ∨ (8203 ≤ r ∧ r ≤ 8207) ∨ (8400 ≤ r ∧ r ≤ 8447) ∨ (65024 ≤ r ∧ r ≤ 65039) ∨ (65056 ≤ r ∧ r ≤ 65071) := by
  simp [hits, marks, hit]
theorem hits_wide (r : Int) : hits wide r = true ↔ (4352 ≤ r ∧ r ≤ 4447) ∨ (11904 ≤ r ∧ r ≤ 12350) ∨ (12353 ≤ r ∧ r ≤ 13311) ∨ (13312 ≤ r ∧ r ≤ 19903) ∨ (19968 ≤ r ∧ r ≤ 40959) ∨ (40960 ≤ r ∧ r ≤ 42191) ∨ (44032 ≤ r ∧ r ≤ 55203) ∨
    (63744 ≤ r ∧ r ≤ 64255) ∨ (65072 ≤ r ∧ r ≤ 65135) ∨ (65280 ≤ r ∧ r ≤ 65376) ∨ (65504 ≤ r ∧ r ≤ 65510) ∨ (127744 ≤ r ∧ r ≤ 128591) ∨ (129280 ≤ r ∧ r ≤ 129535) ∨ (131072 ≤ r ∧ r ≤ 262141) := by
  simp [hits, wide, hit]
theorem ctl_iff (r : Int) : ctl r = true ↔ r < 32 ∨ (127 ≤ r ∧ r ≤ 159) := by simp [ctl]
theorem wd_ctl {r : Int} (h : ctl r = true) : wd r = -1 := by simp [wd, h]
theorem wd_mark {r : Int} (h : hits marks r = true) : wd r = 0 := by
  have hc : ctl r = false := by
    cases e : ctl r
    · rfl
    · rw [ctl_iff] at e; rw [hits_marks] at h; omega
  simp [wd, h, hc]
theorem wd_wide {r : Int} (h : hits wide r = true) : wd r = 2 := by
  have hc : ctl r = false := by
    cases e : ctl r
    · rfl
    · rw [ctl_iff] at e; rw [hits_wide] at h; omega
  have hm : hits marks r = false := by
    cases e : hits marks r
    · rfl
    · rw [hits_marks] at e; rw [hits_wide] at h; omega
  simp [wd, h, hc, hm]
theorem wd_one {r : Int} (hc : ctl r = false) (hm : hits marks r = false) (hw : hits wide r = false) : wd r = 1 := by simp [wd, hc, hm, hw]
theorem wd_cases (r : Int) : wd r = -1 ∨ wd r = 0 ∨ wd r = 1 ∨ wd r = 2 := by
  unfold wd
  repeat' split
  all_goals simp
theorem wd_two (r : Int) : wd r = 2 ↔ hits wide r = true := by
  constructor
  · intro h
    unfold wd at h
    repeat' split at h
    · omega
    · omega
    · assumption
    · omega
  · exact wd_wide
theorem wd_zero (r : Int) : wd r = 0 ↔ hits marks r = true := by
  constructor
  · intro h
    unfold wd at h
    repeat' split at h
    · omega
    · assumption
    · omega
    · omega
  · exact wd_mark
theorem wd_neg (r : Int) : wd r = -1 ↔ ctl r = true := by
  constructor
  · intro h
    unfold wd at h
    repeat' split at h
    · assumption
    · omega
    · omega
    · omega
  · exact wd_ctl

end Go.Proofs.YtgnkbcflkalhjaaDoor.Chw.Cw

namespace Go.Proofs.YtgnkbcflkalhjaaDoor.Chw
open Go.RowKit

/-- The block g holds, in the world w, the ranges ps, one behind the other. -/
def Tab (w : World) (g : Nat) (ps : List (Int × Int)) : Prop :=
  g < w.heap.size ∧ ∀ j, j < ps.length → w.cell? ⟨g, j * 2, none⟩ = some (.int .i32 (ps.getD j (0, 0)).1) ∧ w.cell? ⟨g, j * 2 + 1, none⟩ = some (.int .i32 (ps.getD j (0, 0)).2)
theorem Tab.below {w w' : World} {B g : Nat} {ps : List (Int × Int)} (h : Tab w g ps) (hb : Below B w w') (hB : w.heap.size ≤ B) : Tab w' g ps :=
  ⟨Nat.lt_of_lt_of_le h.1 (by have := hb.size; omega), fun j hj => ⟨(hb.cell (p := ⟨g, j * 2, none⟩) (Nat.lt_of_lt_of_le h.1 hB)).trans (h.2 j hj).1, (hb.cell (p := ⟨g, j * 2 + 1, none⟩) (Nat.lt_of_lt_of_le h.1 hB)).trans (h.2 j hj).2⟩⟩
/-- The cells of a table. -/
def cellsOf (ps : List (Int × Int)) : List Value := ps.flatMap fun p => [.int .i32 p.1, .int .i32 p.2]
theorem cellsOf_get (ps : List (Int × Int)) (j : Nat) (hj : j < ps.length) : (cellsOf ps)[j * 2]? = some (.int .i32 (ps.getD j (0, 0)).1) ∧ (cellsOf ps)[j * 2 + 1]? = some (.int .i32 (ps.getD j (0, 0)).2) := by
  induction ps generalizing j with
  | nil => cases hj
  | cons p ps ih =>
    cases j with
    | zero => exact ⟨rfl, rfl⟩
    | succ j =>
      have hj' : j < ps.length := by simpa using hj
      have e1 : (j + 1) * 2 = j * 2 + 2 := by omega
      have e2 : (j + 1) * 2 + 1 = j * 2 + 1 + 2 := by omega
      have h := ih j hj'
      rw [e2, e1]
      exact h
theorem Tab.laid (w : World) (ps : List (Int × Int)) (t : TypeId) : Tab (w.alloc (.cells (cellsOf ps).toArray t)) w.heap.size ps := by
  refine ⟨by simp, fun j hj => ?_⟩
  have h := cellsOf_get ps j hj
  have e : (w.alloc (.cells (cellsOf ps).toArray t)).heap[w.heap.size]? = some (.cells (cellsOf ps).toArray t) := heap_alloc_new w _
  unfold World.cell?
  rw [e]
  exact ⟨by simpa using h.1, by simpa using h.2⟩

set_option maxHeartbeats 400000 in
set_option maxRecDepth 100000 in
theorem wide_any (w : World) :
    Calls Tryd.prog 31 #[] w fun e w' => e = .returned (.slice (some ⟨w.heap.size, 0, none⟩) 14 14) ∧ w' = w.alloc (.cells (cellsOf Cw.wide).toArray 56) := by
  go_enter Tryd.func31, Tryd.ntmps31
  go_wp2
  go_ret
  exact ⟨rfl, rfl⟩
set_option maxHeartbeats 400000 in
set_option maxRecDepth 100000 in
theorem marks_any (w : World) :
    Calls Tryd.prog 35 #[] w fun e w' => e = .returned (.slice (some ⟨w.heap.size, 0, none⟩) 7 7) ∧ w' = w.alloc (.cells (cellsOf Cw.marks).toArray 56) := by
  go_enter Tryd.func35, Tryd.ntmps35
  go_wp2
  go_ret
  exact ⟨rfl, rfl⟩
/-- What a call of one of the four tables leaves. -/
theorem table_of {f n : Nat} {ps : List (Int × Int)} {w : World} (h : Calls Tryd.prog f #[] w fun e w' => e = .returned (.slice (some ⟨w.heap.size, 0, none⟩) n n) ∧ w' = w.alloc (.cells (cellsOf ps).toArray 56)) :
    Calls Tryd.prog f #[] w fun e w' => e = .returned (.slice (some ⟨w.heap.size, 0, none⟩) n n) ∧ Tab w' w.heap.size ps ∧ Below w.heap.size w w' :=
  h.mono fun _ _ ⟨he, hw⟩ => ⟨he, hw ▸ Tab.laid w ps _, hw ▸ (Below.refl _ w).alloc (Nat.le_refl _) _⟩

theorem ret_bool {a b : Bool} (h : a = b) : Ending.returned (.bool a) = .returned (.bool b) := by rw [h]
theorem ret_int {k : IntKind} {a b : Int} (h : a = b) : Ending.returned (.int k a) = .returned (.int k b) := by rw [h]

set_option maxRecDepth 100000 in
theorem control_any (r : Int) (w : World) : Calls Tryd.prog 28 #[.int .i32 r] w fun e w' => e = .returned (.bool (Cw.ctl r)) ∧ w = w' := by
  have hR := Lib.hid (show Cw.ctl r = true ↔ _ from Cw.ctl_iff r)
  go_enter Tryd.func28, Tryd.ntmps28
  go_wp2
  all_goals
    go_ret
    refine ⟨ret_bool ?_, rfl⟩
    have hr := hR.out
    clear hR
    rw [Bool.eq_iff_iff, hr]
    simp
    try omega

end Go.Proofs.YtgnkbcflkalhjaaDoor.Chw

namespace Go.Proofs.YtgnkbcflkalhjaaDoor.Chw
open Go.RowKit

set_option maxRecDepth 100000 in
/-- The closure of within: the entry's two numbers, and r in the cell of block p. -/
theorem entry_any (a b r : Int) (p : Nat) (w : World) (hp : w.cell? ⟨p, 0, none⟩ = some (.int .i32 r)) (hlt : p < w.heap.size) :
    Calls Tryd.prog 37 #[.agg #[.int .i32 a, .int .i32 b], .pointer (some ⟨p, 0, none⟩)] w fun e w' => e = .returned (.bool (Cw.hit (a, b) r)) ∧ Below w.heap.size w w' := by
  have hne : p ≠ w.heap.size := by omega
  by_cases h1 : a ≤ r <;> by_cases h2 : r ≤ b
  all_goals
    go_enter Tryd.func37, Tryd.ntmps37
    go_wp2
    go_ret
    exact ⟨ret_bool (by simp [Cw.hit, h1, h2]), (Below.refl _ w).alloc (Nat.le_refl _) _⟩

set_option maxHeartbeats 1000000 in
set_option maxRecDepth 100000 in
theorem index_any (g n c p : Nat) (r : Int) (ps : List (Int × Int)) (w : World) (hn : ps.length = n) (hbig : n ≤ 1000) (hT : Tab w g ps) (hp : w.cell? ⟨p, 0, none⟩ = some (.int .i32 r)) (hlt : p < w.heap.size) :
    Calls Tryd.prog 38 #[.slice (some ⟨g, 0, none⟩) n c, .func (.func 37) #[] #[.pointer (some ⟨p, 0, none⟩)]] w
      fun e w' => (∃ z : Int, e = .returned (.int .i64 z) ∧ decide (0 ≤ z) = Cw.hits ps r) ∧ Below w.heap.size w w' := by
  go_enter Tryd.func38, Tryd.ntmps38
  go_wp2
  go_loopg [5, 8] n (fun gg _ s8 wr => ∃ k : Nat, k ≤ n ∧ n - k ≤ gg ∧ s8 = .int .i64 k ∧ Aside (Below w.heap.size w wr) ∧ Aside (∀ j, j < k → Cw.hit (ps.getD j (0, 0)) r = false))
  case atStart => exact ⟨0, Nat.zero_le _, by omega, rfl, Below.refl _ w, fun j hj => absurd hj (Nat.not_lt_zero _)⟩
  case round =>
    obtain ⟨k, hk, hg, rfl, BW, A⟩ := hrel
    by_cases hkn : k < n
    · have hz : (k : Int) < (n : Int) := by omega
      have hz0 : (0 : Int) ≤ (k : Int) := by omega
      obtain ⟨c1, c2⟩ := hT.2 k (by omega)
      have d1 := (BW.out.cell (p := ⟨g, k * 2, none⟩) hT.1).trans c1
      have d2 := (BW.out.cell (p := ⟨g, k * 2 + 1, none⟩) hT.1).trans c2
      have hpp := (BW.out.cell (p := ⟨p, 0, none⟩) hlt).trans hp
      have hsz := BW.out.size
      have hcall := entry_any (ps.getD k (0, 0)).1 (ps.getD k (0, 0)).2 r p wr hpp (by omega)
      have HT := Lib.hid hT
      clear hT hp hpp c1 c2
      obtain ⟨y, hy⟩ : ∃ y, ps.getD k (0, 0) = y := ⟨_, rfl⟩
      rw [hy] at d1 d2 hcall
      have HY := Lib.hid hy
      clear hy
      obtain ⟨a, b⟩ := y
      cases hq : Cw.hit (a, b) r with
      | true =>
        rw [hq] at hcall
        have HQ := Lib.hid hq
        clear hq
        go_wp2_with (go_at_call 37; refine hcall.mono ?_; rintro e w' ⟨rfl, hb'⟩)
        go_ret
        refine ⟨⟨_, rfl, ?_⟩, BW.out.trans (hb'.mono hsz)⟩
        rw [Cw.hits_of k (by omega) (by rw [HY.out]; exact HQ.out)]
        simp
      | false =>
        rw [hq] at hcall
        have HQ := Lib.hid hq
        clear hq
        go_wp2_with (go_at_call 37; refine hcall.mono ?_; rintro e w' ⟨rfl, hb'⟩)
        go_roundg (n - (k + 1))
        case measure => omega
        case rel =>
          refine ⟨k + 1, by omega, by omega, by go_num, BW.out.trans (hb'.mono hsz), (show Aside _ from fun j hj => ?_)⟩
          by_cases e : j = k
          · subst e
            rw [HY.out]; exact HQ.out
          · exact A.out j (by omega)
    · have hz : ¬ (k : Int) < (n : Int) := by omega
      have HT := Lib.hid hT
      clear hT
      go_wp2
      go_ret
      refine ⟨⟨_, rfl, ?_⟩, BW.out⟩
      rw [Cw.hits_none (fun j hj => A.out j (by omega))]
      rfl

end Go.Proofs.YtgnkbcflkalhjaaDoor.Chw

namespace Go.Proofs.YtgnkbcflkalhjaaDoor.Chw
open Go.RowKit

set_option maxHeartbeats 400000 in
set_option maxRecDepth 100000 in
theorem contains_any (g n c p : Nat) (r : Int) (ps : List (Int × Int)) (w : World) (hn : ps.length = n) (hbig : n ≤ 1000) (hT : Tab w g ps) (hp : w.cell? ⟨p, 0, none⟩ = some (.int .i32 r)) (hlt : p < w.heap.size) :
    Calls Tryd.prog 36 #[.slice (some ⟨g, 0, none⟩) n c, .func (.func 37) #[] #[.pointer (some ⟨p, 0, none⟩)]] w
      fun e w' => e = .returned (.bool (Cw.hits ps r)) ∧ Below w.heap.size w w' := by
  have hcall := index_any g n c p r ps w hn hbig hT hp hlt
  generalize Cw.hits ps r = q at hcall ⊢
  clear hT hp
  go_enter Tryd.func36, Tryd.ntmps36
  go_wp2_with (go_at_call 38; refine hcall.mono ?_; rintro e w' ⟨⟨z, rfl, hz⟩, hb'⟩; have HZ := Lib.hid hz; clear hz)
  all_goals
    go_ret
    exact ⟨ret_bool HZ.out, hb'⟩

set_option maxHeartbeats 400000 in
set_option maxRecDepth 100000 in
theorem within_any (g n c : Nat) (r : Int) (ps : List (Int × Int)) (w : World) (hn : ps.length = n) (hbig : n ≤ 1000) (hT : Tab w g ps) :
    Calls Tryd.prog 30 #[.slice (some ⟨g, 0, none⟩) n c, .int .i32 r] w fun e w' => e = .returned (.bool (Cw.hits ps r)) ∧ Below w.heap.size w w' := by
  have hcall := contains_any g n c w.heap.size r ps (w.alloc (.cells #[.int .i32 r] 21)) hn hbig (hT.below ((Below.refl _ w).alloc (Nat.le_refl _) _) (Nat.le_refl _)) (by simp) (by simp)
  generalize Cw.hits ps r = q at hcall ⊢
  clear hT
  have hmf : ∀ (fn : Fn) (first cap : Array Value) (w : World), (Instr.makeFunc fn first cap).run Tryd.prog w = .ok (.func fn first cap) w := fun _ _ _ _ => rfl
  go_enter Tryd.func30, Tryd.ntmps30
  go_wp2_with (go_at_call 36; refine hcall.mono ?_; rintro e w' ⟨rfl, hb'⟩)
  go_ret
  exact ⟨rfl, ((Below.refl _ w).alloc (Nat.le_refl _) _).trans (hb'.mono (by simp))⟩

end Go.Proofs.YtgnkbcflkalhjaaDoor.Chw

namespace Go.Proofs.YtgnkbcflkalhjaaDoor.Chw
open Go.RowKit

set_option maxHeartbeats 400000 in
set_option maxRecDepth 100000 in
theorem mark_any (r : Int) (w : World) : Calls Tryd.prog 29 #[.int .i32 r] w fun e w' => e = .returned (.bool (Cw.hits Cw.marks r)) ∧ Below w.heap.size w w' := by
  have htab := table_of (marks_any w)
  have hlen : Cw.marks.length = 7 := rfl
  have HL := Lib.hid hlen
  clear hlen
  generalize Cw.marks = ps at htab HL ⊢
  go_enter Tryd.func29, Tryd.ntmps29
  go_wp2_with fail
  refine htab.mono ?_
  rintro e w1 ⟨rfl, hT, hb⟩
  have hcall := within_any w.heap.size 7 7 r ps w1 HL.out (by decide) hT
  clear hT htab
  go_wp2_with fail
  refine hcall.mono ?_
  rintro e w2 ⟨rfl, hb2⟩
  go_wp2
  go_ret
  exact ⟨rfl, hb.trans (hb2.mono hb.size)⟩

set_option maxHeartbeats 400000 in
set_option maxRecDepth 100000 in
theorem width_any (r : Int) (w : World) : Calls Tryd.prog 25 #[.int .i32 r] w fun e w' => e = .returned (.int .i64 (Cw.wd r)) ∧ Below w.heap.size w w' := by
  have hctl := control_any r w
  have hmark := mark_any r w
  have hwide := fun w' : World => table_of (wide_any w')
  have hlen : Cw.wide.length = 14 := rfl
  have HL := Lib.hid hlen
  clear hlen
  obtain ⟨z, hz⟩ : ∃ z, Cw.wd r = z := ⟨_, rfl⟩
  rw [hz]
  unfold Cw.wd at hz
  have HW := Lib.hid hz
  clear hz
  generalize Cw.marks = ms at hmark HW
  generalize Cw.wide = ps at hwide HL HW
  cases h1 : Cw.ctl r
  · rw [h1] at hctl HW
    cases h2 : Cw.hits ms r
    · rw [h2] at hmark HW
      cases h3 : Cw.hits ps r
      all_goals
        rw [h3] at HW
        clear h1 h2
        go_enter Tryd.func25, Tryd.ntmps25
        go_wp2_with fail
        refine hctl.mono ?_
        rintro e w0 ⟨rfl, rfl⟩
        go_wp2_with fail
        refine hmark.mono ?_
        rintro e w1 ⟨rfl, hb1⟩
        go_wp2_with fail
        refine (hwide w1).mono ?_
        rintro e w2 ⟨rfl, hT, hb2⟩
        have hcall := within_any w1.heap.size 14 14 r ps w2 HL.out (by decide) hT
        rw [h3] at hcall
        clear hT
        go_wp2_with fail
        refine hcall.mono ?_
        rintro e w3 ⟨rfl, hb3⟩
        go_wp2
        go_ret
        exact ⟨ret_int (by have := HW.out; simpa using this), (hb1.trans (hb2.mono hb1.size)).trans (hb3.mono (Nat.le_trans hb1.size hb2.size))⟩
    · rw [h2] at hmark HW
      clear h1 h2 hwide
      go_enter Tryd.func25, Tryd.ntmps25
      go_wp2_with fail
      refine hctl.mono ?_
      rintro e w0 ⟨rfl, rfl⟩
      go_wp2_with fail
      refine hmark.mono ?_
      rintro e w1 ⟨rfl, hb1⟩
      go_wp2
      go_ret
      exact ⟨ret_int (by have := HW.out; simpa using this), hb1⟩
  · rw [h1] at hctl HW
    clear h1 hmark hwide
    go_enter Tryd.func25, Tryd.ntmps25
    go_wp2_with fail
    refine hctl.mono ?_
    rintro e w0 ⟨rfl, rfl⟩
    go_wp2
    go_ret
    exact ⟨ret_int (by have := HW.out; simpa using this), Below.refl _ _⟩

end Go.Proofs.YtgnkbcflkalhjaaDoor.Chw
