/-
  What the functions that lead a cursor to a position and up return.
-/
import Derived.Test.YteenjjiobibokaaCuLead
namespace Go.Proofs.Yteenjjiobibokaa
open Go.RowKit Cu

/-- The memory of a lead that began in w: its cursor, the place of its result. -/
theorem lead_mem (w : World) (r c : Int) (p : Bool) (U : World) (h : Below ((w.alloc (.cells #[.int .i64 r, .int .i64 c, .bool p] 23)).alloc (.cells #[.int .i64 0, .int .i64 0, .bool false] 23)).heap.size ((w.alloc (.cells #[.int .i64 r, .int .i64 c, .bool p] 23)).alloc (.cells #[.int .i64 0, .int .i64 0, .bool false] 23)) U) :
    Below w.heap.size w U ∧ Cr U w.heap.size r c p ∧ Cr U (w.heap.size + 1) 0 0 false ∧ w.heap.size + 2 ≤ U.heap.size := by
  have b0 : Below w.heap.size w ((w.alloc (.cells #[.int .i64 r, .int .i64 c, .bool p] 23)).alloc (.cells #[.int .i64 0, .int .i64 0, .bool false] 23)) := ((Below.refl _ w).alloc (Nat.le_refl _) _).alloc (by simp) _
  refine ⟨below_step b0 h, ?_, ?_, ?_⟩
  · exact ((Cr.laid w r c p).below ((Below.refl _ _).alloc (Nat.le_refl _) _)).below h
  · exact (Cr.put (w.alloc (.cells #[.int .i64 r, .int .i64 c, .bool p] 23)) (by simp) 0 0 false).below h
  · have := h.size
    simp at this
    exact this

theorem Cr.store3 {U : World} {k : Nat} {x y : Int} {q : Bool} (h : Cr U k x y q) (r c : Int) (p : Bool) : Cr (((U.setCell ⟨k, 0, none⟩ (.int .i64 r)).setCell ⟨k, 1, none⟩ (.int .i64 c)).setCell ⟨k, 2, none⟩ (.bool p)) k r c p := ((h.s0 r).s1 c).s2 p
theorem below_store3 {B : Nat} {w U : World} (h : Below B w U) {k : Nat} (hk : B ≤ k) (x y z : Value) : Below B w (((U.setCell ⟨k, 0, none⟩ x).setCell ⟨k, 1, none⟩ y).setCell ⟨k, 2, none⟩ z) := ((h.setCell (p := ⟨k, 0, none⟩) hk x).setCell (p := ⟨k, 1, none⟩) hk y).setCell (p := ⟨k, 2, none⟩) hk z

set_option maxHeartbeats 1000000 in
set_option maxRecDepth 100000 in
theorem to1_any (W H T E x y r c : Int) (O : Bool) (kb kx ky : Nat) (h : Ok W H T E) (w : World) (hb : Bd w kb W H T E O) (hx : Nu w kx x) (hy : Nu w ky y) :
    Calls Try.prog 34 #[.agg #[.int .i64 r, .int .i64 c, .bool false], .func (.func 37) #[] #[], .pointer (some ⟨kb, 0, none⟩), .pointer (some ⟨kx, 0, none⟩), .pointer (some ⟨ky, 0, none⟩)] w
      fun e w' => e = .returned (.agg #[.int .i64 (toRow H T E O x), .int .i64 (toCol W y), .bool false]) ∧ Below w.heap.size w w' := by
  have e1 := toRow_near h O x
  have e2 := toCol_near h y
  have CR := Lib.hid (fun w => rows_any W H T E O O h w)
  obtain ⟨a1, a2, a3, a4, a5, a6, a7⟩ := h
  obtain ⟨a, ha, ha0, ha1⟩ : ∃ a, (if O then T else 0) = a ∧ 0 ≤ a ∧ a ≤ 60 := ⟨_, rfl, by split <;> omega, by split <;> omega⟩
  obtain ⟨z, hz⟩ : ∃ z, (if O then E - 1 else H - 1) = z := ⟨_, rfl⟩
  rw [ha, hz] at e1
  rw [ha, hz] at CR
  clear ha hz
  have d1 := lim_ge x 1 H
  have d2 := lim_le x 1 H a3
  have d3 := lim_ge y 1 W
  have d4 := lim_le y 1 W a1
  have C1 := Lib.hid (fun W' => lim_any x 1 H W')
  have C2 := Lib.hid (fun W' => lim_any (a + lim x 1 H - 1) a z W')
  have C3 := Lib.hid (fun W' => lim_any y 1 W W')
  rw [e1] at C2
  obtain ⟨d, hd⟩ : ∃ d, lim x 1 H = d := ⟨_, rfl⟩
  obtain ⟨f, hf⟩ : ∃ f, lim y 1 W = f := ⟨_, rfl⟩
  rw [hd] at C1 C2 d1 d2
  rw [hf] at C3 e2 d3 d4
  rw [← e2]
  clear hd hf e1 e2
  generalize toRow H T E O x = R at C2 ⊢
  have ln := hb.lt
  have lx := hx.lt
  have ly := hy.lt
  have n1 : kb ≠ w.heap.size := by omega
  have n2 : kb ≠ w.heap.size + 1 := by omega
  have cb := hb.c0
  have cb1 := hb.c1
  have cb2 := hb.c2
  have cb3 := hb.c3
  have cb4 := hb.c4
  have K := Lib.hid (lead_mem w r c false)
  have HB := Lib.hid hb
  have HX := Lib.hid hx
  have HY := Lib.hid hy
  clear hb hx hy
  go_enter Try.func34, Try.ntmps34
  go_wp2_with fail
  refine (CR.out _).mono ?_
  rintro e w1 ⟨rfl, b1⟩
  obtain ⟨q1, q2, q3, q4⟩ := K.out _ b1
  have Q1 := Lib.hid q1
  clear b1 cb cb1 cb2 cb3 cb4 K CR n1 n2
  have mb := HB.out.below q1
  have mb0 := mb.c0
  have mb1 := mb.c1
  have mx := (HX.out.below q1).c0
  have my := (HY.out.below q1).c0
  have v0 := q2.c0
  have v1 := q2.c1
  have v2 := q2.c2
  have z0 := q2.z 0
  have z1 := q2.z 1
  have r0 := q3.z 0
  have r1 := q3.z 1
  have r2 := q3.z 2
  have y0 := q3.c0
  have y1 := q3.c1
  have y2 := q3.c2
  have m1 : kb ≠ w.heap.size := by omega
  have m2 : kx ≠ w.heap.size := by omega
  have m3 : ky ≠ w.heap.size := by omega
  have Q2 := Lib.hid q2
  have Q3 := Lib.hid q3
  have Q4 := Lib.hid q4
  clear q1 q2 q3 q4 mb ln lx ly HB HX HY
  go_wp2_with fail
  refine (C1.out _).mono ?_
  rintro e w2 ⟨rfl, rfl⟩
  go_wp2_with fail
  refine (C2.out _).mono ?_
  rintro e w2 ⟨rfl, rfl⟩
  go_wp2_with fail
  refine (C3.out _).mono ?_
  rintro e w2 ⟨rfl, rfl⟩
  go_wp2
  have hne : w.heap.size + 1 ≠ w.heap.size := by omega
  refine bodyPost_ret (res_c rfl _ _ (w.heap.size + 1) R (f - 1) false rfl (((Q3.out.other hne _).other hne _).store3 _ _ _)) rfl ⟨rfl, ?_⟩
  exact below_store3 ((Q1.out.setCell (Nat.le_refl _) _).setCell (Nat.le_refl _) _) (by omega) _ _ _

set_option maxHeartbeats 2000000 in
set_option maxRecDepth 100000 in
theorem up1_any (W H T E n r c : Int) (O : Bool) (kb kn : Nat) (h : Ok W H T E) (h0 : 0 ≤ r) (h1 : r ≤ H - 1) (w : World) (hb : Bd w kb W H T E O) (hn : Nu w kn n) :
    Calls Try.prog 38 #[.agg #[.int .i64 r, .int .i64 c, .bool false], .func (.func 37) #[] #[], .pointer (some ⟨kb, 0, none⟩), .pointer (some ⟨kn, 0, none⟩)] w
      fun e w' => e = .returned (.agg #[.int .i64 (upRow H T E r n), .int .i64 c, .bool false]) ∧ Below w.heap.size w w' := by
  have hnear := up_near h r n h0 h1
  have CI := Lib.hid (fun w => inReg_any r W H T E O w)
  have CR := Lib.hid (fun w => rows_any W H T E O (reg T E r) h w)
  obtain ⟨a1, a2, a3, a4, a5, a6, a7⟩ := h
  have d1 := lim_ge n (-H) H
  have d2 := lim_le n (-H) H (by omega)
  have C1 := Lib.hid (fun W' => lim_any n (-H) H W')
  have C2 := Lib.hid (fun W' => lim_any (r - lim n (-H) H) (fst T E r) (lst H T E r) W')
  rw [hnear] at C2
  obtain ⟨d, hd⟩ : ∃ d, lim n (-H) H = d := ⟨_, rfl⟩
  rw [hd] at C1 C2 d1 d2
  have ea : (if reg T E r = true then T else 0) = fst T E r := rfl
  have ez : (if reg T E r = true then E - 1 else H - 1) = lst H T E r := rfl
  rw [ea, ez] at CR
  clear hd hnear ea ez
  generalize upRow H T E r n = R at C2 ⊢
  generalize fst T E r = a at C2 CR
  generalize lst H T E r = z at C2 CR
  generalize reg T E r = q at CI CR
  have ln := hn.lt
  have lb := hb.lt
  obtain ⟨V, hV⟩ : ∃ V, ((w.alloc (.cells #[.int .i64 r, .int .i64 c, .bool false] 23)).alloc (.cells #[.int .i64 0, .int .i64 0, .bool false] 23)) = V := ⟨_, rfl⟩
  have K := lead_mem w r c false
  rw [hV] at K
  have keep0 : ∀ U, Below V.heap.size V U → (U.cell? ⟨kb, 0, none⟩ = some (.int .i64 W) ∧ U.cell? ⟨kb, 1, none⟩ = some (.int .i64 H) ∧ U.cell? ⟨kb, 2, none⟩ = some (.int .i64 T) ∧ U.cell? ⟨kb, 3, none⟩ = some (.int .i64 E) ∧ U.cell? ⟨kb, 4, none⟩ = some (.bool O) ∧ U.cell? ⟨w.heap.size, 0, none⟩ = some (.int .i64 r) ∧ Aside (Below V.heap.size V U)) := fun U hU => by
    have k := K U hU
    have b := hb.below k.1
    exact ⟨b.c0, b.c1, b.c2, b.c3, b.c4, k.2.1.c0, hU⟩
  have keep : ∀ {U U' : World}, (U.cell? ⟨kb, 0, none⟩ = some (.int .i64 W) ∧ U.cell? ⟨kb, 1, none⟩ = some (.int .i64 H) ∧ U.cell? ⟨kb, 2, none⟩ = some (.int .i64 T) ∧ U.cell? ⟨kb, 3, none⟩ = some (.int .i64 E) ∧ U.cell? ⟨kb, 4, none⟩ = some (.bool O) ∧ U.cell? ⟨w.heap.size, 0, none⟩ = some (.int .i64 r) ∧ Aside (Below V.heap.size V U)) → Below U.heap.size U U' → (U'.cell? ⟨kb, 0, none⟩ = some (.int .i64 W) ∧ U'.cell? ⟨kb, 1, none⟩ = some (.int .i64 H) ∧ U'.cell? ⟨kb, 2, none⟩ = some (.int .i64 T) ∧ U'.cell? ⟨kb, 3, none⟩ = some (.int .i64 E) ∧ U'.cell? ⟨kb, 4, none⟩ = some (.bool O) ∧ U'.cell? ⟨w.heap.size, 0, none⟩ = some (.int .i64 r) ∧ Aside (Below V.heap.size V U')) := fun {U U'} hs hu => keep0 U' (below_step hs.2.2.2.2.2.2.out hu)
  have hS := keep0 V.drew (Below.refl _ _).drew
  have HB := Lib.hid hb
  have HN := Lib.hid hn
  have HK := Lib.hid K
  clear hb hn K keep0
  go_enter Try.func38, Try.ntmps38
  go_wp2_with fail
  clear hV
  go_region_held3 (fun U => U.cell? ⟨kb, 0, none⟩ = some (.int .i64 W) ∧ U.cell? ⟨kb, 1, none⟩ = some (.int .i64 H) ∧ U.cell? ⟨kb, 2, none⟩ = some (.int .i64 T) ∧ U.cell? ⟨kb, 3, none⟩ = some (.int .i64 E) ∧ U.cell? ⟨kb, 4, none⟩ = some (.bool O) ∧ U.cell? ⟨w.heap.size, 0, none⟩ = some (.int .i64 r) ∧ Aside (Below V.heap.size V U))
    (assumption)
    (first | (go_at_call 39; refine (CI.out _).mono ?_; rintro e w' ⟨rfl, hb'⟩; have hs' := keep (by assumption) hb') | (go_at_call 35; refine (CR.out _).mono ?_; rintro e w' ⟨rfl, hb'⟩; have hs' := keep (by assumption) hb'))
  obtain ⟨q1, q2, q3, q4⟩ := HK.out _ hs'.2.2.2.2.2.2.out
  clear hs' hb' keep hS
  have mn := (HN.out.below q1).c0
  have mb1 := (HB.out.below q1).c1
  have v0 := q2.c0
  have v1 := q2.c1
  have v2 := q2.c2
  have z0 := q2.z 0
  have r0 := q3.z 0
  have r1 := q3.z 1
  have r2 := q3.z 2
  have y0 := q3.c0
  have y1 := q3.c1
  have y2 := q3.c2
  have m1 : kb ≠ w.heap.size := by omega
  have m2 : kn ≠ w.heap.size := by omega
  have hne : w.heap.size + 1 ≠ w.heap.size := by omega
  have Q1 := Lib.hid q1
  have Q2 := Lib.hid q2
  have Q3 := Lib.hid q3
  clear q1 q2 q3 q4 HB HN HK ln lb CI CR
  go_wp2_with fail
  refine (C1.out _).mono ?_
  rintro e w2 ⟨rfl, rfl⟩
  go_wp2_with fail
  refine (C2.out _).mono ?_
  rintro e w2 ⟨rfl, rfl⟩
  go_wp2
  refine bodyPost_ret (res_c rfl _ _ (w.heap.size + 1) R c false rfl ((Q3.out.other hne _).store3 _ _ _)) rfl ⟨rfl, ?_⟩
  exact below_store3 (Q1.out.setCell (Nat.le_refl _) _) (by omega) _ _ _

end Go.Proofs.Yteenjjiobibokaa
