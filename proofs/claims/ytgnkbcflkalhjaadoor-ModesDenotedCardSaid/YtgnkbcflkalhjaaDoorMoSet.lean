/-
  What Set of modes returns, and the document's own Set.
-/
import Derived.Test.YtgnkbcflkalhjaaDoorMoFuncs
namespace Go.Proofs.YtgnkbcflkalhjaaDoor
open Go.RowKit Mo

/-- From w to w' nothing that lay in w is changed but the block k. -/
def Bx (k : Nat) (w w' : World) : Prop := w'.os = w.os ∧ w'.tape = w.tape ∧ w'.output = w.output ∧ w.heap.size ≤ w'.heap.size ∧ ∀ j, j < w.heap.size → j ≠ k → w'.heap[j]? = w.heap[j]?
theorem Bx.refl (k : Nat) (w : World) : Bx k w w := ⟨rfl, rfl, rfl, Nat.le_refl _, fun _ _ _ => rfl⟩
theorem Bx.set {k : Nat} {w a : World} (h : Bx k w a) (o : Nat) (v : Value) : Bx k w (a.setCell ⟨k, o, none⟩ v) :=
  ⟨h.1, h.2.1, h.2.2.1, by simpa [World.setCell] using h.2.2.2.1, fun j hj hk => (heap_setCell_other a ⟨k, o, none⟩ j v hk).trans (h.2.2.2.2 j hj hk)⟩
theorem Bx.below {k B : Nat} {w a : World} (h : Bx k w a) (hB : B ≤ w.heap.size) (hk : B ≤ k) : Below B w a := ⟨h.1, h.2.1, h.2.2.1, h.2.2.2.1, fun j hj => h.2.2.2.2 j (by omega) (by omega)⟩
theorem Bx.cell {k b o : Nat} {w a : World} (h : Bx k w a) (hb : b < w.heap.size) (hk : b ≠ k) : a.cell? ⟨b, o, none⟩ = w.cell? ⟨b, o, none⟩ := World.cell?_of_block (a := ⟨b, o, none⟩) (h.2.2.2.2 b hb hk)
theorem Md.at {w : World} {k : Nat} {m : M} (h : Md w k m) (j : Nat) (hj : j < 8) : w.cell? ⟨k, j, none⟩ = some (.bool (m.get j)) := by
  obtain ⟨u0, u1, u2, u3, u4, u5, u6, u7, _⟩ := h.all
  have : j = 0 ∨ j = 1 ∨ j = 2 ∨ j = 3 ∨ j = 4 ∨ j = 5 ∨ j = 6 ∨ j = 7 := by omega
  rcases this with rfl | rfl | rfl | rfl | rfl | rfl | rfl | rfl <;> assumption

set_option maxRecDepth 100000 in
theorem fields_any (k : Nat) (p : Int) (w : World) : Calls Tryd.prog 26 #[.pointer (some ⟨k, 0, none⟩), .int .u8 p] w
    fun e w' => (∃ kp km, e = .returned (.func (.func 32) #[] #[.pointer (some ⟨kp, 0, none⟩), .pointer (some ⟨km, 0, none⟩)]) ∧ w.heap.size ≤ kp ∧ w.heap.size ≤ km ∧ kp < w'.heap.size ∧ km < w'.heap.size ∧ w'.cell? ⟨kp, 0, none⟩ = some (.int .u8 p) ∧ w'.cell? ⟨km, 0, none⟩ = some (.pointer (some ⟨k, 0, none⟩))) ∧ Below w.heap.size w w' := by
  go_enter Tryd.func26, Tryd.ntmps26
  go_wp2
  go_ret
  refine ⟨⟨w.heap.size + 1, w.heap.size, rfl, by omega, by omega, by simp, by simp; omega, ?_, ?_⟩, below_step (below_alloc _ _) (below_alloc _ _)⟩
  · exact cell_of_row _ _ 0 #[.int .u8 p] _ _ (heap_alloc2_new w _ _)
  · exact cell_of_row _ _ 0 #[.pointer (some ⟨k, 0, none⟩)] _ _ (heap_alloc2_old w _ _)

def zero : M := ⟨false, false, false, false, false, false, false, false, 0, 0, 0⟩
/-- The memory of a call with modes that began in w: the modes, and the place of its result. -/
theorem call_mem (w : World) (m : M) (U : World) (h : Below ((w.alloc (.cells #[.bool m.f0, .bool m.f1, .bool m.f2, .bool m.f3, .bool m.f4, .bool m.f5, .bool m.f6, .bool m.f7, .int .u8 m.s0, .int .u8 m.s1, .int .i64 m.sh] 24)).alloc (.cells #[.bool false, .bool false, .bool false, .bool false, .bool false, .bool false, .bool false, .bool false, .int .u8 0, .int .u8 0, .int .i64 0] 24)).heap.size ((w.alloc (.cells #[.bool m.f0, .bool m.f1, .bool m.f2, .bool m.f3, .bool m.f4, .bool m.f5, .bool m.f6, .bool m.f7, .int .u8 m.s0, .int .u8 m.s1, .int .i64 m.sh] 24)).alloc (.cells #[.bool false, .bool false, .bool false, .bool false, .bool false, .bool false, .bool false, .bool false, .int .u8 0, .int .u8 0, .int .i64 0] 24)) U) :
    Below w.heap.size w U ∧ Md U w.heap.size m ∧ Md U (w.heap.size + 1) zero ∧ w.heap.size + 2 ≤ U.heap.size := by
  refine ⟨below_step (below_step (below_alloc _ _) (below_alloc _ _)) h, ?_, ?_, ?_⟩
  · exact ((Md.laid w m).below (below_alloc _ _)).below h
  · exact (Md.put _ (by simp) zero).below h
  · have := h.size
    simp at this
    omega

set_option maxHeartbeats 2000000 in
set_option maxRecDepth 100000 in
theorem set_any (m x : M) (p : Int) (on : Bool) (A : Option Addr) (n c B : Nat) (l : List Int) (hl : n ≤ 1000) (w : World) (hN : Nums w B A n l) (hB : B ≤ w.heap.size) (hx : set m p l on = x) :
    Calls Tryd.prog 14 #[.agg #[.bool m.f0, .bool m.f1, .bool m.f2, .bool m.f3, .bool m.f4, .bool m.f5, .bool m.f6, .bool m.f7, .int .u8 m.s0, .int .u8 m.s1, .int .i64 m.sh], .int .u8 p, .slice A n c, .bool on] w fun e w' => e = .returned (.agg #[.bool x.f0, .bool x.f1, .bool x.f2, .bool x.f3, .bool x.f4, .bool x.f5, .bool x.f6, .bool x.f7, .int .u8 x.s0, .int .u8 x.s1, .int .i64 x.sh]) ∧ Below w.heap.size w w' := by
  have CF := Lib.hid (fun U => fields_any w.heap.size p U)
  have HM := Lib.hid (call_mem w m)
  have HX := Lib.hid hx
  have HN := Lib.hid hN
  clear hx hN
  go_enter Tryd.func14, Tryd.ntmps14
  go_wp2_with fail
  refine (CF.out _).mono ?_
  rintro e w1 ⟨⟨kp, km, rfl, g1, g2, g3, g4, cp, cm⟩, b1⟩
  obtain ⟨q1, q2, q3, q4⟩ := HM.out _ b1
  have Q1 := Lib.hid q1
  have Q2 := Lib.hid q2
  have Q3 := Lib.hid q3
  have Q4 := Lib.hid q4
  have G1 := Lib.hid (show w.heap.size + 2 ≤ kp by simp at g1; omega)
  have G2 := Lib.hid (show w.heap.size + 2 ≤ km by simp at g2; omega)
  have G3 := Lib.hid g3
  have G4 := Lib.hid g4
  have CP := Lib.hid cp
  have CM := Lib.hid cm
  clear q1 q2 q3 q4 b1 CF HM g1 g2 g3 g4 cp cm
  go_wp2
  go_loopg [11, 12, 17] n (fun gg _ _ s17 wr => ∃ k : Nat, k ≤ n ∧ n - k ≤ gg ∧ s17 = .int .i64 k ∧ Aside (Bx w.heap.size w1 wr) ∧ Aside (Md wr w.heap.size (set m p (l.take k) on)))
  case atStart => exact ⟨0, Nat.zero_le _, by omega, rfl, Bx.refl _ _, Q2.out⟩
  case round =>
    obtain ⟨k, hk, hg, rfl, BW, MW⟩ := hrel
    have lp := G3.out
    have lm := G4.out
    have cp := (BW.out.cell (o := 0) lp (by have := G1.out; omega)).trans CP.out
    have cm := (BW.out.cell (o := 0) lm (by have := G2.out; omega)).trans CM.out
    clear lp lm
    by_cases hkn : k < n
    · have hz : (k : Int) < (n : Int) := by omega
      have hz0 : (0 : Int) ≤ (k : Int) := by omega
      obtain ⟨b, off, rfl, hb, hc⟩ := HN.out.2 k hkn
      have hc := ((BW.out.cell (o := off + k) (by have := Q1.out.size; omega) (by omega)).trans (Q1.out.cell (p := ⟨b, off + k, none⟩) (by show b < w.heap.size; omega))).trans hc
      have hst := Lib.hid (set_take m p l on k (by have := HN.out.1; omega))
      obtain ⟨y, hy⟩ : ∃ y, l.getD k 0 = y := ⟨_, rfl⟩
      rw [hy] at hst hc
      have C1 := Lib.hid (fields1_any w.heap.size kp km p y wr cp cm)
      clear cp cm hy hkn hb
      obtain ⟨j, hj⟩ : ∃ j, den p y = j := ⟨_, rfl⟩
      have j8 := den_le p y
      rw [hj] at hst C1 j8
      clear hj
      have HKN := Lib.hid hk
      by_cases h8 : j < 8
      · have e8 : ptr w.heap.size j = .pointer (some ⟨w.heap.size, j, none⟩) := if_pos h8
        rw [e8] at C1
        have ac := MW.out.at j h8
        have az := MW.out.z j
        have H8 := Lib.hid h8
        clear e8 h8 j8
        go_wp2_with fail
        refine C1.out.mono ?_
        rintro e w' ⟨rfl, rfl⟩
        go_wp2
        go_roundg (n - (k + 1))
        case measure => omega
        case rel =>
          refine ⟨k + 1, by omega, by omega, by go_num, BW.out.set _ _, ?_⟩
          have := MW.out.s j on H8.out
          rw [hst.out] at this
          exact this
      · have e8 : ptr w.heap.size j = .pointer none := if_neg h8
        rw [e8] at C1
        obtain rfl : j = 8 := by omega
        clear e8 h8 j8
        go_wp2_with fail
        refine C1.out.mono ?_
        rintro e w' ⟨rfl, rfl⟩
        go_wp2
        go_roundg (n - (k + 1))
        case measure => omega
        case rel =>
          refine ⟨k + 1, by omega, by omega, by go_num, BW.out, ?_⟩
          have := MW.out
          rw [← hst.out]
          exact this
    · have hz : ¬ (k : Int) < (n : Int) := by omega
      have HK := Lib.hid (show k = n by omega)
      have MX : Md wr w.heap.size x := by
        have := MW.out
        rw [HK.out, List.take_of_length_le (by have := HN.out.1; omega), HX.out] at this
        exact this
      have RX : Md wr (w.heap.size + 1) zero := (BW.out.2.2.2.2 _ (by have := Q4.out; omega) (by omega)).trans Q3.out
      have F := Lib.hid RX
      obtain ⟨u0, u1, u2, u3, u4, u5, u6, u7, u8, u9, u10⟩ := MX.all
      obtain ⟨v0, v1, v2, v3, v4, v5, v6, v7, v8, v9, v10⟩ := RX.all
      obtain ⟨z0, z1, z2, z3, z4, z5, z6, z7, z8, z9, z10⟩ := RX.zs
      clear cp cm hkn MW RX MX
      go_wp2
      refine bodyPost_ret (res_m rfl _ _ (w.heap.size + 1) x rfl (F.out.store x)) rfl ⟨rfl, ?_⟩
      exact below_store (Q1.out.trans (BW.out.below (Nat.le_trans (by omega) Q4.out) (Nat.le_refl _))) (by omega) x

end Go.Proofs.YtgnkbcflkalhjaaDoor
