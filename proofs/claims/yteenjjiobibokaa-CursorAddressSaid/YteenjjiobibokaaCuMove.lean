/-
  What the lead of a step, and move, return.
-/
import Derived.Test.YteenjjiobibokaaCuLeadB
import Derived.Laws.StructEq
import Derived.Laws.EntriesVeiled
namespace Go.Proofs.Yteenjjiobibokaa
open Go.RowKit Cu

/-- From w to w' nothing that lay in w is changed but the block k. -/
def Bx (k : Nat) (w w' : World) : Prop := w'.os = w.os ∧ w'.tape = w.tape ∧ w'.output = w.output ∧ w.heap.size ≤ w'.heap.size ∧ ∀ j, j < w.heap.size → j ≠ k → w'.heap[j]? = w.heap[j]?
theorem Bx.of {k : Nat} {w w' : World} (h : Below w.heap.size w w') : Bx k w w' := ⟨h.os, h.tape, h.output, h.size, fun j hj _ => h.block j hj⟩
theorem Bx.step {k : Nat} {w a b : World} (h : Bx k w a) (h2 : Below a.heap.size a b) : Bx k w b :=
  ⟨h2.os.trans h.1, h2.tape.trans h.2.1, h2.output.trans h.2.2.1, Nat.le_trans h.2.2.2.1 h2.size, fun j hj hk => (h2.block j (Nat.lt_of_lt_of_le hj h.2.2.2.1)).trans (h.2.2.2.2 j hj hk)⟩
theorem Bx.pre {k : Nat} {w a b : World} (h : Below w.heap.size w a) (h2 : Bx k a b) : Bx k w b :=
  ⟨h2.1.trans h.os, h2.2.1.trans h.tape, h2.2.2.1.trans h.output, Nat.le_trans h.size h2.2.2.2.1, fun j hj hk => (h2.2.2.2.2 j (Nat.lt_of_lt_of_le hj h.size) hk).trans (h.block j hj)⟩
theorem Bx.set {k : Nat} {w a : World} (h : Bx k w a) (o : Nat) (v : Value) : Bx k w (a.setCell ⟨k, o, none⟩ v) :=
  ⟨h.1, h.2.1, h.2.2.1, by simpa [World.setCell] using h.2.2.2.1, fun j hj hk => (heap_setCell_other a ⟨k, o, none⟩ j v hk).trans (h.2.2.2.2 j hj hk)⟩
theorem Bx.above {k m : Nat} {w a : World} (h : Bx k w a) (hm : w.heap.size ≤ m) (o : Nat) (v : Value) : Bx k w (a.setCell ⟨m, o, none⟩ v) :=
  ⟨h.1, h.2.1, h.2.2.1, by simpa [World.setCell] using h.2.2.2.1, fun j hj hk => (heap_setCell_other a ⟨m, o, none⟩ j v (by show j ≠ m; omega)).trans (h.2.2.2.2 j hj hk)⟩
theorem Bx.above3 {k m : Nat} {w a : World} (h : Bx k w a) (hm : w.heap.size ≤ m) (x y z : Value) : Bx k w (((a.setCell ⟨m, 0, none⟩ x).setCell ⟨m, 1, none⟩ y).setCell ⟨m, 2, none⟩ z) := ((h.above hm 0 x).above hm 1 y).above hm 2 z
theorem Bx.below {k B : Nat} {w a : World} (h : Bx k w a) (hB : B ≤ w.heap.size) (hk : B ≤ k) : Below B w a := ⟨h.1, h.2.1, h.2.2.1, h.2.2.2.1, fun j hj => h.2.2.2.2 j (by omega) (by omega)⟩
theorem Bx.whole {k : Nat} {w a : World} (h : Bx k w a) (hk : a.heap[k]? = w.heap[k]?) : Below w.heap.size w a := ⟨h.1, h.2.1, h.2.2.1, h.2.2.2.1, fun j hj => by
  by_cases e : j = k
  · subst e; exact hk
  · exact h.2.2.2.2 j hj e⟩
theorem Nu.s {w : World} {k : Nat} {n : Int} (h : Nu w k n) (x : Int) : Nu (w.setCell ⟨k, 0, none⟩ (.int .i64 x)) k x := heap_setCell_same w k 0 _ _ _ h
theorem Nu.other {w : World} {k k' o : Nat} {n : Int} (h : Nu w k n) (hk : k ≠ k') (v : Value) : Nu (w.setCell ⟨k', o, none⟩ v) k n := (heap_setCell_other w ⟨k', o, none⟩ k _ hk).trans h
theorem Nu.other3 {w : World} {k k' : Nat} {n : Int} (h : Nu w k n) (hk : k ≠ k') (x y z : Value) : Nu (((w.setCell ⟨k', 0, none⟩ x).setCell ⟨k', 1, none⟩ y).setCell ⟨k', 2, none⟩ z) k n := ((h.other hk x).other hk y).other hk z

set_option maxHeartbeats 2000000 in
set_option maxRecDepth 100000 in
theorem step1_any (W H T E n r c : Int) (O : Bool) (kf kb ks kp kn : Nat) (h : Ok W H T E) (h0 : 0 ≤ r) (h1 : r ≤ H - 1) (w : World)
    (hf : w.heap[kf]? = some (.cells #[.func (.func 38) #[] #[.pointer (some ⟨kp, 0, none⟩), .pointer (some ⟨kn, 0, none⟩)]] 45)) (hb : Bd w kb W H T E O) (hp : Bd w kp W H T E O) (hn : Nu w kn n) (hs : Nu w ks 0) :
    Calls Try.prog 40 #[.agg #[.int .i64 r, .int .i64 c, .bool false], .func (.func 37) #[] #[], .pointer (some ⟨kf, 0, none⟩), .pointer (some ⟨kb, 0, none⟩), .pointer (some ⟨ks, 0, none⟩)] w
      fun e w' => e = .returned (.agg #[.int .i64 (upRow H T E r n), .int .i64 c, .bool false]) ∧ Bx ks w w' ∧ Nu w' ks (scr H T E r n) := by
  have eq1 := Try.stoodInHeld23
  have eq2 := Try.eqGuardType23
  have lf := lt_of_block hf
  have ls := hs.lt
  have cf : w.cell? ⟨kf, 0, none⟩ = some (.func (.func 38) #[] #[.pointer (some ⟨kp, 0, none⟩), .pointer (some ⟨kn, 0, none⟩)]) := cell_of_row w kf 0 _ _ _ hf
  have nf1 : kf ≠ w.heap.size := by omega
  have nf2 : kf ≠ w.heap.size + 1 := by omega
  obtain ⟨V, hV⟩ : ∃ V, ((w.alloc (.cells #[.int .i64 r, .int .i64 c, .bool false] 23)).alloc (.cells #[.int .i64 0, .int .i64 0, .bool false] 23)) = V := ⟨_, rfl⟩
  have K := lead_mem w r c false
  rw [hV] at K
  have kV := (K V (Below.refl _ _)).1
  have CU := Lib.hid (up1_any W H T E n r c O kp kn h h0 h1 V (hp.below kV) (hn.below kV))
  have CI := Lib.hid (fun w => inReg_any r W H T E O w)
  have hscr : scr H T E r n = if upRow H T E r n = r ∧ reg T E r = true then 1 else 0 := rfl
  rw [hscr]
  generalize upRow H T E r n = R at CU ⊢
  generalize reg T E r = q at CI ⊢
  clear hscr
  obtain ⟨S, hS⟩ : ∃ S, (if R = r ∧ q = true then (1 : Int) else 0) = S := ⟨_, rfl⟩
  rw [hS]
  have HE := Lib.hid hS
  clear hS
  have cur := (K V (Below.refl _ _)).2.1
  have u0 := cur.c0
  have u1 := cur.c1
  have u2 := cur.c2
  have cfV : V.cell? ⟨kf, 0, none⟩ = some (.func (.func 38) #[] #[.pointer (some ⟨kp, 0, none⟩), .pointer (some ⟨kn, 0, none⟩)]) := (kV.cell (p := ⟨kf, 0, none⟩) lf).trans cf
  have HB := Lib.hid hb
  have HS := Lib.hid hs
  have HK := Lib.hid K
  clear hb hp hn hs K kV cur hf h
  go_enter Try.func40, Try.ntmps40
  go_wp2_with fail
  clear hV
  refine CU.out.mono ?_
  rintro e w1 ⟨rfl, b1⟩
  obtain ⟨q1, q2, q3, q4⟩ := HK.out _ b1
  have q5 := (Below.refl w1.heap.size w1).alloc (Nat.le_refl _) (.cells #[.int .i64 R, .int .i64 c, .bool false] 23)
  have q6 := Cr.laid w1 R c false
  have p1 := below_step q1 q5
  have p2 := q2.below q5
  have p3 := q3.below q5
  have hk8 : w.heap.size + 2 ≤ w1.heap.size := q4
  have bB := HB.out.below p1
  have lb := HB.out.lt
  have m0 := bB.c0
  have m1 := bB.c1
  have m2 := bB.c2
  have m3 := bB.c3
  have m4 := bB.c4
  have v0 := p2.c0
  have v1 := p2.c1
  have v2 := p2.c2
  have r0 := p3.z 0
  have r1 := p3.z 1
  have r2 := p3.z 2
  have y0 := p3.c0
  have y1 := p3.c1
  have y2 := p3.c2
  have ecc : (c == c) = true := by simp
  have n7 : w1.heap.size ≠ w.heap.size + 1 := by omega
  have n8 : ks ≠ w.heap.size + 1 := by omega
  have n12 : kb ≠ w1.heap.size := by omega
  have n13 : w.heap.size ≠ w1.heap.size := by omega
  have n14 : w.heap.size + 1 ≠ w1.heap.size := by omega
  have P1 := Lib.hid p1
  have P3 := Lib.hid p3
  have Q6 := Lib.hid q6
  have N2 := Lib.hid (HS.out.below p1)
  clear b1 q1 q2 q3 q5 q6 p1 p2 p3 bB u0 u1 u2 cf cfV CU HK HB q4
  by_cases hR : R = r
  · subst hR
    have eR : (R == R) = true := by simp
    go_wp2_with fail
    generalize w1.alloc (.cells #[.int .i64 R, .int .i64 c, .bool false] 23) = w2 at P1 P3 Q6 N2 ⊢
    refine (CI.out w2).mono ?_
    rintro e w3 ⟨rfl, b3⟩
    have P1' := Lib.hid (below_step P1.out b3)
    have p3' := P3.out.below b3
    have q6' := Q6.out.below b3
    have N3 := Lib.hid (N2.out.below b3)
    have t0 := q6'.c0
    have t1 := q6'.c1
    have t2 := q6'.c2
    have r0 := p3'.z 0
    have r1 := p3'.z 1
    have r2 := p3'.z 2
    have y0 := p3'.c0
    have y1 := p3'.c1
    have y2 := p3'.c2
    have s0 := N3.out.z 0
    have s1 := N3.out.c0
    have n9 : ks ≠ w1.heap.size := by omega
    have n10 : w1.heap.size ≠ ks := by omega
    have n11 : w.heap.size + 1 ≠ ks := by omega
    have P3' := Lib.hid p3'
    clear b3 p3' q6' P1 P3 Q6 N2 CI m0 m1 m2 m3 m4 v0 v1 v2
    cases q with
    | true =>
      go_wp2
      refine bodyPost_ret (res_c rfl _ _ (w.heap.size + 1) R c false rfl ((P3'.out.other n11 _).store3 _ _ _)) rfl ⟨rfl, ?_, ?_⟩
      · exact ((Bx.of P1'.out).set 0 _).above3 (by omega) _ _ _
      · have e := HE.out
        rw [if_pos (by simp)] at e
        rw [← e]
        exact (N3.out.s 1).other3 n8 _ _ _
    | false =>
      go_wp2
      refine bodyPost_ret (res_c rfl _ _ (w.heap.size + 1) R c false rfl (P3'.out.store3 _ _ _)) rfl ⟨rfl, ?_, ?_⟩
      · exact (Bx.of P1'.out).above3 (by omega) _ _ _
      · have e := HE.out
        rw [if_neg (fun e => by cases e.2)] at e
        rw [← e]
        exact N3.out.other3 n8 _ _ _
  · have eR : (R == r) = false := by simp [hR]
    go_wp2_with fail
    refine bodyPost_ret (res_c rfl _ _ (w.heap.size + 1) R c false rfl (P3.out.store3 _ _ _)) rfl ⟨rfl, ?_, ?_⟩
    · exact (Bx.of P1.out).above3 (by omega) _ _ _
    · have e := HE.out
      rw [if_neg (fun e => hR e.1)] at e
      rw [← e]
      exact N2.out.other3 n8 _ _ _

end Go.Proofs.Yteenjjiobibokaa
