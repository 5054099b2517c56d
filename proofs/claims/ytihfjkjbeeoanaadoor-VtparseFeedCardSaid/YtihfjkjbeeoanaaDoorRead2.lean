/-
  What readInEscape, readInCommand and readInSequence of vtparse return.
-/
import Derived.Test.YtihfjkjbeeoanaaDoorRead1
import Derived.Test.YtihfjkjbeeoanaaDoorParse
namespace Go.Proofs.YtihfjkjbeeoanaaDoor
open Go.RowKit

/-- What is known of the memory of a call that has begun. -/
def Bg (w W : World) (p : Vt.P) : Prop := Pk W w.heap.size p ∧ Pk W (w.heap.size + 1) Vt.zero ∧ Below w.heap.size w W
theorem Bg.start (w : World) (p : Vt.P) : Bg w (begun w p Vt.zero) p := ⟨begun_arg w p _, begun_res w p _, begun_low w p _⟩
theorem Bg.below {w W W' : World} {p : Vt.P} (h : Bg w W p) (hb : Below W.heap.size W W') : Bg w W' p := ⟨h.1.below hb, h.2.1.below hb, h.2.2.trans (hb.mono h.2.2.size)⟩
/-- The result's block filled behind a callee's return. -/
theorem Bg.fill {w W : World} {p : Vt.P} (h : Bg w W p) (q : Vt.P) : Pk (((W.setCell ⟨w.heap.size + 1, 0, none⟩ (.int .i64 q.st)).setCell ⟨w.heap.size + 1, 1, none⟩ (.string (ba q.pe))).setCell ⟨w.heap.size + 1, 2, none⟩ (.string (ba q.bu))) (w.heap.size + 1) q := h.2.1.all q
theorem below_fill {w W : World} {k : Nat} (hk : w.heap.size ≤ k) (h : Below w.heap.size w W) (a b c : Value) : Below w.heap.size w (((W.setCell ⟨k, 0, none⟩ a).setCell ⟨k, 1, none⟩ b).setCell ⟨k, 2, none⟩ c) :=
  ((h.setCell hk a).setCell hk b).setCell hk c
theorem World.set_heap (W : World) (k k' o : Nat) (v : Value) (h : k' ≠ k) : (W.setCell ⟨k, o, none⟩ v).heap[k']? = W.heap[k']? := heap_setCell_other W ⟨k, o, none⟩ k' _ h
theorem OutE.fill {w W w1 : World} {p : Vt.P} {v : Value} {es : List Vt.E} (hB : Bg w W p) (h : OutE W w1 v es) (a b c : Value) : OutE w (((w1.setCell ⟨w.heap.size + 1, 0, none⟩ a).setCell ⟨w.heap.size + 1, 1, none⟩ b).setCell ⟨w.heap.size + 1, 2, none⟩ c) v es := by
  have hk : w.heap.size + 1 < W.heap.size := hB.2.1.lt
  have hlow := below_fill (k := w.heap.size + 1) (by omega) (hB.2.2.trans (h.low.mono hB.2.2.size)) a b c
  have h0 : ∀ (w2 : World), (∃ gs : List G, gs.map G.e = es ∧ w2.ownsRow W.heap.size 33 7 v gs.length (gs.flatMap G.cells) ∧ ∀ g ∈ gs, Par w2 W.heap.size v.ownBlock g) → ∀ (o : Nat) (x : Value), ∃ gs : List G, gs.map G.e = es ∧ (w2.setCell ⟨w.heap.size + 1, o, none⟩ x).ownsRow W.heap.size 33 7 v gs.length (gs.flatMap G.cells) ∧ ∀ g ∈ gs, Par (w2.setCell ⟨w.heap.size + 1, o, none⟩ x) W.heap.size v.ownBlock g := by
    rintro w2 ⟨gs, h1, h2, h3⟩ o x
    refine ⟨gs, h1, ⟨h2.1, ?_⟩, fun g hg => ⟨(h3 g hg).1, fun j hj => ?_⟩⟩
    · rcases h2.2 with hn | ⟨g, cap, cur, rfl, hbase, hh, rest⟩
      · exact .inl hn
      · exact .inr ⟨g, cap, cur, rfl, hbase, (World.set_heap w2 (w.heap.size + 1) g o x (by omega)).trans hh, rest⟩
    · obtain ⟨b, off, e, h5, h6, h7, hc⟩ := (h3 g hg).2 j hj
      refine ⟨b, off, e, h5, by simpa using h6, h7, ?_⟩
      have hh := World.set_heap w2 (w.heap.size + 1) b o x (by omega)
      unfold World.cell? at hc ⊢
      simp only [hh]
      exact hc
  obtain ⟨gs, h1, h2, h3, h4⟩ := h
  obtain ⟨gs, h1, h2, h3⟩ := h0 _ (h0 _ (h0 _ ⟨gs, h1, h2, h3⟩ 0 a) 1 b) 2 c
  refine ⟨gs, h1, ⟨h2.1, ?_⟩, fun g hg => (h3 g hg).less hB.2.2.size, hlow⟩
  rcases h2.2 with hn | ⟨g, cap, cur, rfl, hbase, rest⟩
  · exact .inl hn
  · exact .inr ⟨g, cap, cur, rfl, Nat.le_trans hB.2.2.size hbase, rest⟩

set_option maxHeartbeats 2000000 in
set_option maxRecDepth 100000 in
theorem readInEscape_any (p : Vt.P) (b : UInt8) (w : World) (hl : p.bu.length ≤ 1000) :
    Calls Tryd.prog 22 #[.agg #[.int .i64 p.st, .string (ba p.pe), .string (ba p.bu)], .int .u8 (b.toNat : Int)] w (Gone w (Vt.esc p b).1 (Vt.esc p b).2) := by
  obtain ⟨R, hR⟩ : ∃ R, Vt.esc p b = R := ⟨_, rfl⟩
  rw [hR]
  unfold Vt.esc at hR
  obtain ⟨st, pe, bu⟩ := p
  have cI := fun W => isControl_any b W
  have F := Lib.hid (Bg.start w ⟨st, pe, bu⟩)
  by_cases h1 : Vt.isCtl b = true
  · rw [if_pos h1] at hR
    subst hR
    rw [h1] at cI
    have CI := Lib.hid cI
    have CR := Lib.hid (readControl_any ⟨st, pe, bu⟩ b (begun w ⟨st, pe, bu⟩ Vt.zero))
    clear cI
    go_enter Tryd.func22, Tryd.ntmps22
    go_wp2_with fail
    refine (CI.out _).mono ?_
    rintro e w' ⟨rfl, rfl⟩
    clear CI
    go_wp2_with fail
    refine CR.out.mono ?_
    rintro e w1 ⟨A1, n1, c1, rfl, hO⟩
    have F1 := Lib.hid (F.out.below hO.low)
    have HO := Lib.hid hO
    clear hO CR
    have y0 := F1.out.2.1.z 0
    have y1 := F1.out.2.1.z 1
    have y2 := F1.out.2.1.z 2
    have x0 := F1.out.2.1.c0
    have x1 := F1.out.2.1.c1
    have x2 := F1.out.2.1.c2
    go_wp2
    refine bodyPost_ret (res_two rfl _ _ _ _ rfl (F1.out.fill _)) rfl ⟨_, _, _, rfl, ?_⟩
    exact OutE.fill F.out HO.out _ _ _
  · rw [if_neg h1] at hR
    rw [Bool.not_eq_true] at h1
    rw [h1] at cI
    have CI := Lib.hid cI
    clear cI
    have hbs : (ba bu).size = bu.length := ba_size bu
    by_cases h2 : b.toNat ≤ 47
    · rw [if_pos h2] at hR
      subst hR
      have h2z : (b.toNat : Int) ≤ 47 := by omega
      have CK := Lib.hid (keep_any ⟨st, pe, bu⟩ b 3 (begun w ⟨st, pe, bu⟩ Vt.zero) (by decide))
      generalize Vt.keep ⟨st, pe, bu⟩ b 3 = K at CK
      go_enter Tryd.func22, Tryd.ntmps22
      go_wp2_with fail
      refine (CI.out _).mono ?_
      rintro e w' ⟨rfl, rfl⟩
      clear CI
      go_wp2_with fail
      refine CK.out.mono ?_
      rintro e w1 ⟨rfl, b1⟩
      have F1 := Lib.hid (F.out.below b1)
      clear b1 CK
      have y0 := F1.out.2.1.z 0
      have y1 := F1.out.2.1.z 1
      have y2 := F1.out.2.1.z 2
      have x0 := F1.out.2.1.c0
      have x1 := F1.out.2.1.c1
      have x2 := F1.out.2.1.c2
      go_wp2
      refine bodyPost_ret (res_two rfl _ _ _ K rfl (F1.out.fill K)) rfl ⟨_, _, _, rfl, ?_⟩
      exact no_events (below_fill (by omega) F1.out.2.2 _ _ _)
    · rw [if_neg h2] at hR
      have h2z : ¬ (b.toNat : Int) ≤ 47 := by omega
      by_cases h3 : bu = []
      · have hem : (ba bu).toList.isEmpty = true := by rw [Lib.toList_data, ba_list, h3]; rfl
        by_cases h4 : b.toNat = 91
        · rw [if_pos ⟨h3, h4⟩] at hR
          subst hR
          have h4z : ((b.toNat : Int) == 91) = true := by rw [h4]; rfl
          clear h3 hbs h4 h2
          go_enter Tryd.func22, Tryd.ntmps22
          go_wp2_with fail
          refine (CI.out _).mono ?_
          rintro e w' ⟨rfl, rfl⟩
          clear CI
          go_wp2
          refine bodyPost_ret (res_two rfl _ _ _ ⟨2, [], []⟩ rfl (begun_res w ⟨st, pe, bu⟩ ⟨2, [], []⟩)) rfl ⟨_, _, _, rfl, ?_⟩
          exact begun_none w ⟨st, pe, bu⟩ ⟨2, [], []⟩
        · rw [if_neg (fun h => h4 h.2)] at hR
          have h4z : ((b.toNat : Int) == 91) = false := by simp; omega
          by_cases h5 : b.toNat = 93
          · rw [if_pos ⟨h3, h5⟩] at hR
            subst hR
            have h5z : ((b.toNat : Int) == 93) = true := by rw [h5]; rfl
            clear h3 hbs h4 h5 h2
            go_enter Tryd.func22, Tryd.ntmps22
            go_wp2_with fail
            refine (CI.out _).mono ?_
            rintro e w' ⟨rfl, rfl⟩
            clear CI
            go_wp2
            refine bodyPost_ret (res_two rfl _ _ _ ⟨3, [], []⟩ rfl (begun_res w ⟨st, pe, bu⟩ ⟨3, [], []⟩)) rfl ⟨_, _, _, rfl, ?_⟩
            exact begun_none w ⟨st, pe, bu⟩ ⟨3, [], []⟩
          · rw [if_neg (fun h => h5 h.2), if_neg (by rw [h3]; simp)] at hR
            subst hR
            have h5z : ((b.toNat : Int) == 93) = false := by simp; omega
            have h6z : ¬ (2 : Int) < ((ba bu).size : Int) := by rw [hbs, h3]; simp
            clear h3 hbs
            go_enter Tryd.func22, Tryd.ntmps22
            go_wp2_with fail
            refine (CI.out _).mono ?_
            rintro e w' ⟨rfl, rfl⟩
            clear CI
            go_wp2
            go_region
            all_goals
              go_wp2
              refine bodyPost_ret (res_two rfl _ _ _ Vt.zero rfl (begun_one_res w ⟨st, pe, bu⟩ Vt.zero _).drew) rfl ⟨_, _, _, rfl, ?_⟩
              exact (begun_one w ⟨st, pe, bu⟩ Vt.zero ⟨3, 0, b, 0, bu, [], []⟩ rfl _ rfl).drew
      · have hem : (ba bu).toList.isEmpty = false := by
          rw [Lib.toList_data, ba_list]
          cases bu with
          | nil => exact absurd rfl h3
          | cons _ _ => rfl
        rw [if_neg (fun h => h3 h.1), if_neg (fun h => h3 h.1)] at hR
        by_cases h6 : 2 < bu.length
        · rw [if_pos h6] at hR
          subst hR
          have h6z : (2 : Int) < ((ba bu).size : Int) := by omega
          clear h3 hbs
          go_enter Tryd.func22, Tryd.ntmps22
          go_wp2_with fail
          refine (CI.out _).mono ?_
          rintro e w' ⟨rfl, rfl⟩
          clear CI
          go_wp2
          refine bodyPost_ret (res_two rfl _ _ _ Vt.zero rfl (begun_res w ⟨st, pe, bu⟩ Vt.zero)) rfl ⟨_, _, _, rfl, ?_⟩
          exact begun_none w ⟨st, pe, bu⟩ Vt.zero
        · rw [if_neg h6] at hR
          subst hR
          have h6z : ¬ (2 : Int) < ((ba bu).size : Int) := by omega
          clear h3 hbs
          go_enter Tryd.func22, Tryd.ntmps22
          go_wp2_with fail
          refine (CI.out _).mono ?_
          rintro e w' ⟨rfl, rfl⟩
          clear CI
          go_wp2
          go_region
          all_goals
            go_wp2
            refine bodyPost_ret (res_two rfl _ _ _ Vt.zero rfl (begun_one_res w ⟨st, pe, bu⟩ Vt.zero _).drew) rfl ⟨_, _, _, rfl, ?_⟩
            exact (begun_one w ⟨st, pe, bu⟩ Vt.zero ⟨3, 0, b, 0, bu, [], []⟩ rfl _ rfl).drew

end Go.Proofs.YtihfjkjbeeoanaaDoor
