/-
  What the functions that lead a cursor return.
-/
import Derived.Test.YteenjjiobibokaaCuSmall
import Derived.Deep.RegionHeld3
import Derived.Deep.DeepCutAuto
namespace Go.Proofs.Yteenjjiobibokaa
open Go.RowKit Cu

theorem res_c {fn : Func} {p : Tmp} (h : fn.results = #[.cell p 23]) (tmps : Array Value) (w : World) (k : Nat) (r c : Int) (q : Bool) (hp : tmps.getD p undef = .pointer (some ⟨k, 0, none⟩)) (hk : Cr w k r c q) :
    (results fn tmps).run Try.prog w = .ok (.agg #[.int .i64 r, .int .i64 c, .bool q]) w :=
  results_cell_row h tmps w k 23 _ (0, 0) _ hp hk Try.underlying23 rfl (by kernel_rfl)
theorem res_cn {fn : Func} {p u : Tmp} (h : fn.results = #[.cell p 23, .tmp u]) (tmps : Array Value) (w : World) (k : Nat) (r c : Int) (q : Bool) (hp : tmps.getD p undef = .pointer (some ⟨k, 0, none⟩)) (hk : Cr w k r c q) :
    (results fn tmps).run Try.prog w = .ok (.tuple #[.agg #[.int .i64 r, .int .i64 c, .bool q], tmps.getD u undef]) w := by
  have hp' : tmps[p]?.getD undef = .pointer (some ⟨k, 0, none⟩) := by simpa using hp
  simp [results, h, hp', asAddr, run_loadVar_row w k 23 23 #[.int .i64 r, .int .i64 c, .bool q] (0, 0) _ hk Try.underlying23 rfl (by kernel_rfl)]
theorem Cr.put (w : World) {k : Nat} (hk : k = w.heap.size) (r c : Int) (p : Bool) : Cr (w.alloc (.cells #[.int .i64 r, .int .i64 c, .bool p] 23)) k r c p := by rw [hk]; exact Cr.laid w r c p
theorem Cr.other {w : World} {k k' o : Nat} {r c : Int} {p : Bool} (h : Cr w k r c p) (hk : k ≠ k') (v : Value) : Cr (w.setCell ⟨k', o, none⟩ v) k r c p := (heap_setCell_other w ⟨k', o, none⟩ k _ hk).trans h
theorem Cr.s0 {w : World} {k : Nat} {r c : Int} {p : Bool} (h : Cr w k r c p) (x : Int) : Cr (w.setCell ⟨k, 0, none⟩ (.int .i64 x)) k x c p := heap_setCell_same w k 0 _ _ _ h
theorem Cr.s1 {w : World} {k : Nat} {r c : Int} {p : Bool} (h : Cr w k r c p) (x : Int) : Cr (w.setCell ⟨k, 1, none⟩ (.int .i64 x)) k r x p := heap_setCell_same w k 1 _ _ _ h
theorem Cr.s2 {w : World} {k : Nat} {r c : Int} {p : Bool} (h : Cr w k r c p) (x : Bool) : Cr (w.setCell ⟨k, 2, none⟩ (.bool x)) k r c x := heap_setCell_same w k 2 _ _ _ h

set_option maxHeartbeats 1000000 in
set_option maxRecDepth 100000 in
theorem right1_any (W H T E n r c : Int) (O : Bool) (kn kb : Nat) (h : Ok W H T E) (h0 : 0 ≤ c) (h1 : c ≤ W - 1) (w : World) (hn : Nu w kn n) (hb : Bd w kb W H T E O) :
    Calls Try.prog 33 #[.agg #[.int .i64 r, .int .i64 c, .bool false], .func (.func 37) #[] #[], .pointer (some ⟨kn, 0, none⟩), .pointer (some ⟨kb, 0, none⟩)] w
      fun e w' => e = .returned (.agg #[.int .i64 r, .int .i64 (riCol W c n), .bool false]) ∧ Below w.heap.size w w' := by
  have hnear := ri_near h c n h0 h1
  have d1 := lim_ge n (-W) W
  have d2 := lim_le n (-W) W (by unfold Ok at h; omega)
  obtain ⟨a1, a2, a3, a4, a5, a6, a7⟩ := h
  have ln := hn.lt
  have lb := hb.lt
  have n1 : kn ≠ w.heap.size := by omega
  have n2 : kn ≠ w.heap.size + 1 := by omega
  have n3 : kb ≠ w.heap.size := by omega
  have n4 : kb ≠ w.heap.size + 1 := by omega
  have cn := hn.c0
  have cb := hb.c0
  have C1 := Lib.hid (fun W' => lim_any n (-W) W W')
  have C2 := Lib.hid (fun W' => lim_any (c + lim n (-W) W) 0 (W - 1) W')
  rw [hnear] at C2
  obtain ⟨d, hd⟩ : ∃ d, lim n (-W) W = d := ⟨_, rfl⟩
  rw [hd] at C1 C2 d1 d2
  clear hd hnear hn hb
  obtain ⟨z, hz⟩ : ∃ z, riCol W c n = z := ⟨_, rfl⟩
  rw [hz] at C2 ⊢
  clear hz
  go_enter Try.func33, Try.ntmps33
  go_wp2_with fail
  refine (C1.out _).mono ?_
  rintro e w1 ⟨rfl, rfl⟩
  go_wp2_with fail
  refine (C2.out _).mono ?_
  rintro e w1 ⟨rfl, rfl⟩
  go_wp2
  refine bodyPost_ret (res_c rfl _ _ _ _ _ _ rfl (Cr.put _ (by simp) _ _ _)) rfl ⟨rfl, ?_⟩
  exact ((Below.refl _ w).alloc (Nat.le_refl _) _).alloc (by simp) _

set_option maxHeartbeats 1000000 in
set_option maxRecDepth 100000 in
theorem clamp1_any (W H T E r c r0 c0 : Int) (O p : Bool) (kc kb : Nat) (h : Ok W H T E) (w : World) (hc : Cr w kc r0 c0 p) (hb : Bd w kb W H T E O) :
    Calls Try.prog 28 #[.agg #[.int .i64 r, .int .i64 c, .bool false], .func (.func 37) #[] #[], .pointer (some ⟨kc, 0, none⟩), .pointer (some ⟨kb, 0, none⟩)] w
      fun e w' => e = .returned (.agg #[.int .i64 r, .int .i64 c, .bool (p && c == W - 1)]) ∧ Below w.heap.size w w' := by
  obtain ⟨a1, a2, a3, a4, a5, a6, a7⟩ := h
  have ln := hc.lt
  have lb := hb.lt
  have n1 : kc ≠ w.heap.size := by omega
  have n2 : kc ≠ w.heap.size + 1 := by omega
  have n3 : kb ≠ w.heap.size := by omega
  have n4 : kb ≠ w.heap.size + 1 := by omega
  have cc := hc.c2
  have cb := hb.c0
  clear hc hb
  cases p with
  | true =>
    go_enter Try.func28, Try.ntmps28
    go_wp2
    refine bodyPost_ret (res_c rfl _ _ _ _ _ _ rfl (Cr.put _ (by simp) _ _ _)) rfl ⟨rfl, ?_⟩
    exact ((Below.refl _ w).alloc (Nat.le_refl _) _).alloc (by simp) _
  | false =>
    go_enter Try.func28, Try.ntmps28
    go_wp2
    refine bodyPost_ret (res_c rfl _ _ _ _ _ _ rfl (Cr.put _ (by simp) _ _ _)) rfl ⟨rfl, ?_⟩
    exact ((Below.refl _ w).alloc (Nat.le_refl _) _).alloc (by simp) _

theorem upward_any (W H T E n : Int) (O : Bool) (w : World) :
    Calls Try.prog 30 #[.int .i64 n, .agg #[.int .i64 W, .int .i64 H, .int .i64 T, .int .i64 E, .bool O]] w
      fun e w' => ∃ kb kn, e = .returned (.func (.func 38) #[] #[.pointer (some ⟨kb, 0, none⟩), .pointer (some ⟨kn, 0, none⟩)]) ∧ Below w.heap.size w w' ∧ Bd w' kb W H T E O ∧ Nu w' kn n ∧ w.heap.size ≤ kb ∧ w.heap.size ≤ kn := by
  have hmf : ∀ (fn : Fn) (first cap : Array Value) (w : World), (Instr.makeFunc fn first cap).run Try.prog w = .ok (.func fn first cap) w := fun _ _ _ _ => rfl
  have hN : Nu ((w.alloc (.cells #[.int .i64 n] 3)).alloc (.cells #[.int .i64 W, .int .i64 H, .int .i64 T, .int .i64 E, .bool O] 25)) w.heap.size n := (Nu.laid w n).below ((Below.refl _ _).alloc (Nat.le_refl _) _)
  have hB : Bd ((w.alloc (.cells #[.int .i64 n] 3)).alloc (.cells #[.int .i64 W, .int .i64 H, .int .i64 T, .int .i64 E, .bool O] 25)) (w.heap.size + 1) W H T E O := by
    have e := Bd.laid (w.alloc (.cells #[.int .i64 n] 3)) W H T E O
    rw [World.size_alloc] at e
    exact e
  have HN := Lib.hid hN
  have HB := Lib.hid hB
  clear hN hB
  go_enter Try.func30, Try.ntmps30
  go_wp2
  go_ret
  exact ⟨_, _, rfl, ((Below.refl _ w).alloc (Nat.le_refl _) _).alloc (by simp) _, HB.out, HN.out, by omega, by omega⟩

end Go.Proofs.Yteenjjiobibokaa
