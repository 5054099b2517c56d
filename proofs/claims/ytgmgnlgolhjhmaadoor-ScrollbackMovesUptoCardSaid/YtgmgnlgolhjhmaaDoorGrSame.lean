/-
  The document's own SameRows and Same of layer 8.
-/
import Derived.Test.YtgmgnlgolhjhmaaDoorGrRef
namespace Go.Proofs.YtgmgnlgolhjhmaaDoor
open Go.RowKit Go.Shelf Cr Gd

/-- Rows of a size that the comparisons bear. -/
def Sz (L : List (List C)) : Prop := ∀ l ∈ L, l.length ≤ 1000
set_option maxHeartbeats 2000000 in
set_option maxRecDepth 100000 in
theorem sameRows_any (A1 A2 : Option Addr) (n1 n2 c1 c2 : Nat) (L M : List (List C)) (w : World) (h1 : RdR w A1 n1 L) (h2 : RdR w A2 n2 M) (hn1 : n1 ≤ 1000) (hn2 : n2 ≤ 1000) (hz1 : Sz L) (hz2 : Sz M) :
    Calls Tryd.prog 15 #[.slice A1 n1 c1, .slice A2 n2 c2] w fun e w' => e = .returned (.bool (decide (L = M))) ∧ Below w.heap.size w w' := by
  have hl : L.length = n1 := h1.1
  have hm : M.length = n2 := h2.1
  by_cases hne : n1 = n2
  · subst hne
    have H1 := Lib.hid h1
    have H2 := Lib.hid h2
    have HL := Lib.hid hl
    have HM := Lib.hid hm
    have HZ1 := Lib.hid hz1
    have HZ2 := Lib.hid hz2
    have hnz : (n1 : Int) ≤ 1000 := by omega
    obtain ⟨D, hD⟩ : ∃ D, decide (L = M) = D := ⟨_, rfl⟩
    rw [hD]
    have HD := Lib.hid hD
    clear h1 h2 hl hm hz1 hz2 hD
    go_enter Tryd.func15, Tryd.ntmps15
    go_wp2
    go_loopg [5] (n1 + 1) (fun gk v5 wr => ∃ k : Nat, gk + k = n1 + 1 ∧ k ≤ n1 ∧ v5 = .int .i64 (k : Int) ∧ Aside (Below w.heap.size w wr ∧ ∀ j, j < k → L[j]? = M[j]?))
    case atStart => exact ⟨0, by omega, Nat.zero_le _, rfl, Below.refl _ _, fun j hj => by omega⟩
    case round =>
      obtain ⟨k, hg, hkn, rfl, hA⟩ := hrel
      by_cases hlt : k < n1
      · obtain ⟨gf, rfl⟩ : ∃ gf, gk = gf + 1 := ⟨gk - 1, by omega⟩
        have hz : (k : Int) < (n1 : Int) := by omega
        have hz0 : (0 : Int) ≤ (k : Int) := by omega
        obtain ⟨x, hx⟩ : ∃ x, L[k]? = some x := ⟨L[k]'(by rw [HL.out]; exact hlt), List.getElem?_eq_getElem _⟩
        obtain ⟨y, hy⟩ : ∃ y, M[k]? = some y := ⟨M[k]'(by rw [HM.out]; exact hlt), List.getElem?_eq_getElem _⟩
        have HA := Lib.hid hA.out
        obtain ⟨b, off, A', m, c', rfl, _, hc, hrd, _⟩ := (H1.out.below HA.out.1).at k x hx
        obtain ⟨b2, off2, A2', m2, c2', rfl, _, hc2, hrd2, _⟩ := (H2.out.below HA.out.1).at k y hy
        have hm1 : m ≤ 1000 := by rw [← hrd.1]; exact HZ1.out x (List.mem_of_getElem? hx)
        have hm2 : m2 ≤ 1000 := by rw [← hrd2.1]; exact HZ2.out y (List.mem_of_getElem? hy)
        have CS := Lib.hid (fun W (h : Below wr.heap.size wr W) => same_any A' A2' m m2 c' c2' x y W (hrd.below h) (hrd2.below h) hm1 hm2)
        obtain ⟨q, hq⟩ : ∃ q, decide (x = y) = q := ⟨_, rfl⟩
        rw [hq] at CS
        have HX := Lib.hid hx
        have HY := Lib.hid hy
        have HQ := Lib.hid hq
        have sB : ∀ {W W' : World}, Below W.heap.size W W' → (W.cell? ⟨b, off + k, none⟩ = some (.slice A' m c') ∧ W.cell? ⟨b2, off2 + k, none⟩ = some (.slice A2' m2 c2') ∧ Aside (Below wr.heap.size wr W)) → (W'.cell? ⟨b, off + k, none⟩ = some (.slice A' m c') ∧ W'.cell? ⟨b2, off2 + k, none⟩ = some (.slice A2' m2 c2') ∧ Aside (Below wr.heap.size wr W')) := fun {W W'} hb h => by
          have hb' := h.2.2.out.trans (hb.mono h.2.2.out.size)
          exact ⟨(hb'.cell (p := ⟨b, off + k, none⟩) (World.block_lt_of_cell? wr _ hc)).trans hc, (hb'.cell (p := ⟨b2, off2 + k, none⟩) (World.block_lt_of_cell? wr _ hc2)).trans hc2, hb'⟩
        have hS : wr.drew.cell? ⟨b, off + k, none⟩ = some (.slice A' m c') ∧ wr.drew.cell? ⟨b2, off2 + k, none⟩ = some (.slice A2' m2 c2') ∧ Aside (Below wr.heap.size wr wr.drew) := ⟨hc, hc2, (Below.refl _ _).drew⟩
        have D1 := fun W (h : W.cell? ⟨b, off + k, none⟩ = some (.slice A' m c') ∧ W.cell? ⟨b2, off2 + k, none⟩ = some (.slice A2' m2 c2') ∧ Aside (Below wr.heap.size wr W)) => CS.out W h.2.2.out
        clear hx hy hq hrd hrd2 hA CS hc hc2
        go_wp2
        go_region_held3 (fun W => W.cell? ⟨b, off + k, none⟩ = some (.slice A' m c') ∧ W.cell? ⟨b2, off2 + k, none⟩ = some (.slice A2' m2 c2') ∧ Aside (Below wr.heap.size wr W))
          (assumption)
          (first | (go_at_call 18; (with_reducible refine (D1 _ (by assumption)).mono ?_); rintro e' w2 ⟨rfl, b3⟩; have hs2 := sB b3 (by assumption); clear b3))
        have B2 := Lib.hid (HA.out.1.trans (hs2.2.2.out.mono HA.out.1.size))
        clear sB hS D1 hs2
        cases q
        · have hd : D = false := by rw [← HD.out]; exact decide_eq_false fun e => by subst e; exact of_decide_eq_false HQ.out (Option.some.inj (HX.out.symm.trans HY.out))
          subst hd
          go_wp2
          go_ret
          exact ⟨rfl, B2.out⟩
        · have hd : x = y := of_decide_eq_true HQ.out
          have HDD := Lib.hid hd
          clear hd
          go_wp2
          go_roundg gf
          case measure => omega
          case rel =>
            refine ⟨k + 1, by omega, by omega, by go_num, B2.out, fun j hj => ?_⟩
            by_cases e : j = k
            · subst e
              rw [HX.out, HY.out, HDD.out]
            · exact HA.out.2 j (by omega)
      · have hz : ¬ (k : Int) < (n1 : Int) := by omega
        have hq : k = n1 := by omega
        subst hq
        have hd : D = true := by
          rw [← HD.out]
          refine decide_eq_true (List.ext_getElem? fun j => ?_)
          rcases Nat.lt_or_ge j k with h | h
          · exact hA.out.2 j h
          · rw [List.getElem?_eq_none (by rw [HL.out]; exact h), List.getElem?_eq_none (by rw [HM.out]; exact h)]
        subst hd
        go_wp2
        go_ret
        exact ⟨rfl, hA.out.1⟩
  · have hb : (((n1 : Nat) : Int) != ((n2 : Nat) : Int)) = true := by simp; omega
    have hd : decide (L = M) = false := decide_eq_false (fun e => hne (by rw [← hl, ← hm, e]))
    rw [hd]
    go_enter Tryd.func15, Tryd.ntmps15
    go_wp2
    go_ret
    exact ⟨rfl, Below.refl _ _⟩

set_option maxHeartbeats 2000000 in
set_option maxRecDepth 100000 in
/-- Two grids of one size that read alike are the same. -/
theorem same_g (W H : Int) (A1 A2 : Option Addr) (n1 n2 c1 c2 : Nat) (L : List (List C)) (w : World) (h1 : RdR w A1 n1 L) (h2 : RdR w A2 n2 L) (hn1 : n1 ≤ 1000) (hz1 : Sz L) :
    Calls Tryd.prog 24 #[.agg #[.int .i64 W, .int .i64 H, .slice A1 n1 c1], .agg #[.int .i64 W, .int .i64 H, .slice A2 n2 c2]] w fun e w' => e = .returned (.bool true) ∧ Below w.heap.size w w' := by
  have hn2 : n2 ≤ 1000 := by rw [← h2.1, h1.1]; exact hn1
  obtain ⟨V, hV⟩ : ∃ V, (w.alloc (.cells #[.int .i64 W, .int .i64 H, .slice A1 n1 c1] 35)).alloc (.cells #[.int .i64 W, .int .i64 H, .slice A2 n2 c2] 35) = V := ⟨_, rfl⟩
  have bV : Below w.heap.size w V := by rw [← hV]; exact ((Below.refl _ _).alloc (Nat.le_refl _) _).alloc (by simp) _
  have CS := Lib.hid (sameRows_any A1 A2 n1 n2 c1 c2 L L V (h1.below bV) (h2.below bV) hn1 hn2 hz1 hz1)
  rw [decide_eq_true rfl] at CS
  have HV := Lib.hid bV
  have e1 : (W == W) = true := beq_self_eq_true W
  have e2 : (H == H) = true := beq_self_eq_true H
  clear h1 h2 bV
  subst hV
  go_enter Tryd.func24, Tryd.ntmps24
  go_wp2_with fail
  refine CS.out.mono ?_
  rintro e w1 ⟨rfl, b1⟩
  have B1 := Lib.hid (HV.out.trans (b1.mono HV.out.size))
  clear b1
  go_wp2
  go_ret
  exact ⟨rfl, B1.out⟩

end Go.Proofs.YtgmgnlgolhjhmaaDoor
