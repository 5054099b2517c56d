/-
  What separate of cellrow returns.
-/
import Derived.Test.YtgmgnlgolhjhmaaDoorBaseB
import Derived.Deep.RegionLaw
import Derived.Deep.RegionWith
import Derived.Deep.DeepCutAuto
namespace Go.Proofs.YtgmgnlgolhjhmaaDoor
open Go.RowKit Cr

def bo (b : Int) : Obj := .cells #[.string ⟨#[32]⟩, .int .i64 1, .int .i64 (-1), .int .i64 b, .int .i64 0] 46
set_option maxRecDepth 100000 in
theorem blank_exact (b : Int) (w : World) : Calls Tryd.prog 60 #[.int .i64 b] w fun e w' => e = .returned (.agg #[.string ⟨#[32]⟩, .int .i64 1, .int .i64 (-1), .int .i64 b, .int .i64 0]) ∧ w.alloc (bo b) = w' := by
  go_enter Tryd.func60, Tryd.ntmps60
  go_wp2
  refine bodyPost_ret (results_cell_row rfl _ _ _ 46 _ (0, 0) _ rfl (heap_alloc_new w _) Tryd.underlying46 rfl (by kernel_rfl)) rfl ⟨rfl, rfl⟩

theorem Own.here {w0 w : World} {g n cap : Nat} {l : List C} (h : Own w0 w (.slice (some ⟨g, 0, none⟩) n cap) l) (j : Nat) (c : C) (hj : l[j]? = some c) :
    (w.cell? ⟨g, j * 5, none⟩ = some (.string c.t) ∧ w.cell? ⟨g, j * 5 + 1, none⟩ = some (.int .i64 c.w) ∧ w.cell? ⟨g, j * 5 + 2, none⟩ = some (.int .i64 c.f) ∧ w.cell? ⟨g, j * 5 + 3, none⟩ = some (.int .i64 c.b) ∧ w.cell? ⟨g, j * 5 + 4, none⟩ = some (.int .i64 c.g)) ∧ ∀ i, w.frozen? ⟨g, i, none⟩ = false := by
  obtain ⟨b, off, e, _, h1⟩ := h.rd.1.at j c hj
  injection e with e
  injection e with e1 e2
  subst e1 e2
  simp only [Nat.zero_add] at h1
  refine ⟨h1, fun i => ?_⟩
  rcases h.1.2 with ⟨e, _⟩ | ⟨g', cap', cur, e, _, hg, _⟩
  · injection e with e; cases e
  · injection e with e
    injection e with e
    injection e with e
    subst e
    exact frozen_of_row w _ i _ _ hg

theorem sep_none {l : List C} {k : Nat} (h : l.length ≤ k) : sep l k = l := by unfold sep; rw [List.getElem?_eq_none h]
theorem sep_keep {l : List C} {k : Nat} {c : C} (h : l[k]? = some c) (hw : c.w ≠ 0) : sep l k = l := by unfold sep; rw [h]; simp only; rw [if_neg hw]
theorem sep_two_set {l : List C} {k : Nat} {p c : C} (hp : l[k]? = some p) (hc : l[k + 1]? = some c) (hw : c.w = 0) : sep l (k + 1) = (l.set k (Cr.blank p.b)).set (k + 1) (Cr.blank c.b) := by
  unfold sep
  rw [hc]
  simp only
  rw [if_pos hw, Nat.add_sub_cancel, List.getD_eq_getElem?_getD, hp]
  rfl
theorem zero_pred {l : List C} (h : Pr l) {k : Nat} {c : C} (hc : l[k]? = some c) (hw : c.w = 0) : ∃ j p, k = j + 1 ∧ l[j]? = some p := by
  cases k with
  | zero =>
    cases l with
    | nil => simp at hc
    | cons a r =>
      have e : a = c := by simpa using hc
      subst e
      exact absurd hw h.head
  | succ j =>
    have hl : j + 1 < l.length := by
      rcases Nat.lt_or_ge (j + 1) l.length with h' | h'
      · exact h'
      · rw [List.getElem?_eq_none h'] at hc; cases hc
    exact ⟨j, l[j], rfl, List.getElem?_eq_getElem (by omega)⟩
def seps (l : List C) (ks : List Nat) : List C := ks.foldl sep l
theorem seps_length (ks : List Nat) : ∀ l : List C, (seps l ks).length = l.length := by
  induction ks with
  | nil => intro l; rfl
  | cons k ks ih => intro l; exact (ih (sep l k)).trans (sep_length l k)
theorem seps_Pr (ks : List Nat) : ∀ l : List C, Pr l → (∀ k ∈ ks, k ≤ l.length) → Pr (seps l ks) := by
  induction ks with
  | nil => intro l h _; exact h
  | cons k ks ih => intro l h hk; exact ih (sep l k) (sep_Pr h k (hk k (by simp))) (fun j hj => by rw [sep_length]; exact hk j (by simp [hj]))
theorem seps_snoc (l : List C) (ks : List Nat) (k : Nat) : seps l (ks ++ [k]) = sep (seps l ks) k := by unfold seps; rw [List.foldl_append]; rfl

/-- A slice of columns. -/
def Cols (w : World) (cb : Nat) (ks : List Nat) : Prop := cb < w.heap.size ∧ ∀ (j k : Nat), ks[j]? = some k → w.cell? ⟨cb, j, none⟩ = some (.int .i64 (k : Int))
theorem Cols.below {w w' : World} {cb : Nat} {ks : List Nat} (h : Cols w cb ks) (hb : Below w.heap.size w w') : Cols w' cb ks :=
  ⟨Nat.lt_of_lt_of_le h.1 hb.size, fun j k hj => (hb.cell (p := ⟨cb, j, none⟩) h.1).trans (h.2 j k hj)⟩

set_option maxHeartbeats 4000000 in
set_option maxRecDepth 100000 in
theorem separate_any (b off n c : Nat) (l : List C) (hn : n ≤ 1000) (hp : Pr l) (cb m : Nat) (ks : List Nat) (hks : ∀ k ∈ ks, k ≤ l.length) (hm : ks.length = m) (hm2 : m ≤ 10) (w : World) (hr : Rd w (some ⟨b, off, none⟩) n l) (hc : Cols w cb ks) :
    Calls Tryd.prog 50 #[.slice (some ⟨b, off, none⟩) n c, .slice (some ⟨cb, 0, none⟩) m m] w fun e w' => ∃ g cap, e = .returned (.slice (some ⟨g, 0, none⟩) n cap) ∧ Own w w' (.slice (some ⟨g, 0, none⟩) n cap) (seps l ks) := by
  have hl : l.length = n := hr.1
  have CC := Lib.hid (cloneR_any b off n c l hn w hr)
  have HC := Lib.hid hc
  have HK := Lib.hid hks
  have HP := Lib.hid hp
  have HM := Lib.hid hm
  have HL := Lib.hid hl
  have hmz : (m : Int) ≤ 10 := by omega
  have hnz : (n : Int) ≤ 1000 := by omega
  clear hr hc hks hp hm hl
  go_enter Tryd.func50, Tryd.ntmps50
  go_wp2_with fail
  refine CC.out.mono ?_
  rintro e w1 ⟨g, cap, rfl, hO⟩
  have HO := Lib.hid hO
  clear hO CC
  go_wp2
  go_loopg [7, 12] (m + 1) (fun gk _ v12 wr => ∃ q : Nat, gk + q = m + 1 ∧ q ≤ m ∧ v12 = .int .i64 (q : Int) ∧ Aside (Own w wr (.slice (some ⟨g, 0, none⟩) n cap) (seps l (ks.take q))))
  case atStart => exact ⟨0, by omega, Nat.zero_le _, rfl, HO.out⟩
  case round =>
    obtain ⟨q, hg, hqm, rfl, hA⟩ := hrel
    by_cases hlt : q < m
    · obtain ⟨g', rfl⟩ : ∃ g', gk = g' + 1 := ⟨gk - 1, by omega⟩
      have hz : (q : Int) < (m : Int) := by omega
      have hz0 : (0 : Int) ≤ (q : Int) := by omega
      have hqk : q < ks.length := by rw [HM.out]; exact hlt
      obtain ⟨k, hk⟩ : ∃ k, ks[q]? = some k := ⟨ks[q], List.getElem?_eq_getElem hqk⟩
      have hcell := (hA.out.2.cell (p := ⟨cb, q, none⟩) HC.out.1).trans (HC.out.2 q k hk)
      have htk : ks.take (q + 1) = ks.take q ++ [k] := by rw [List.take_add_one, hk]; rfl
      have hkl : k ≤ l.length := HK.out k (List.mem_of_getElem? hk)
      have hPs : Pr (seps l (ks.take q)) := seps_Pr _ _ HP.out (fun x hx => HK.out x (List.mem_of_mem_take hx))
      have hls : (seps l (ks.take q)).length = n := by rw [seps_length, HL.out]
      have HS := Lib.hid (seps_snoc l (ks.take q) k)
      rw [← htk] at HS
      obtain ⟨cu, hcu⟩ : ∃ cu, seps l (ks.take q) = cu := ⟨_, rfl⟩
      obtain ⟨nx, hnx⟩ : ∃ nx, seps l (ks.take (q + 1)) = nx := ⟨_, rfl⟩
      have HNX := Lib.hid hnx
      rw [hcu] at hA hPs hls HS
      rw [hnx] at HS
      have HPs := Lib.hid hPs
      have HLS := Lib.hid hls
      have hkz : (0 : Int) ≤ (k : Int) := by omega
      have hkn : (k : Int) ≤ (n : Int) := by rw [HL.out] at hkl; omega
      clear hk htk hkl hPs hls hcu hnx hqk
      rcases Nat.lt_or_ge k n with hkn' | hkn'
      · have hkz1 : (k : Int) < (n : Int) := by omega
        have hkl2 : k < cu.length := by rw [HLS.out]; exact hkn'
        obtain ⟨x, hx⟩ : ∃ x, cu[k]? = some x := ⟨cu[k], List.getElem?_eq_getElem hkl2⟩
        have hh := hA.out.here k x hx
        obtain ⟨⟨p0, p1, p2, p3, p4⟩, hf⟩ := hh
        by_cases hw : x.w = 0
        · obtain ⟨j, y, rfl, hy⟩ := zero_pred HPs.out hx hw
          obtain ⟨⟨r0, r1, r2, r3, r4⟩, _⟩ := hA.out.here j y hy
          obtain ⟨k, hk⟩ : ∃ k, j + 1 = k := ⟨_, rfl⟩
          have hwr : IntKind.i64.wrap ((k : Int) - 1) = (j : Int) := by rw [IntKind.wrap_i64]; omega
          have hj0 : (0 : Int) ≤ (j : Int) := by omega
          have hj1 : (j : Int) < (n : Int) := by omega
          rw [hw] at p1
          rw [hk] at p0 p1 p2 p3 p4 hx hkz hkn hkn' hkz1 hkl2 hcell HS
          have c1 : Calls Tryd.prog 60 #[.int .i64 y.b] wr.drew fun e w' => e = .returned (.agg #[.string ⟨#[32]⟩, .int .i64 1, .int .i64 (-1), .int .i64 y.b, .int .i64 0]) ∧ (wr.alloc (bo y.b)).drew = w' := blank_exact y.b wr.drew
          have c2 : Calls Tryd.prog 60 #[.int .i64 x.b] (wr.alloc (bo y.b)).drew fun e w' => e = .returned (.agg #[.string ⟨#[32]⟩, .int .i64 1, .int .i64 (-1), .int .i64 x.b, .int .i64 0]) ∧ ((wr.alloc (bo y.b)).alloc (bo x.b)).drew = w' := blank_exact x.b (wr.alloc (bo y.b)).drew
          have A1 := hA.out.alloc (bo y.b)
          have A2 := A1.alloc (bo x.b)
          obtain ⟨⟨s0, s1, s2, s3, s4⟩, hf1⟩ := A1.here k x hx
          obtain ⟨⟨u0, u1, u2, u3, u4⟩, hf2⟩ := A2.here k x hx
          obtain ⟨⟨v0, v1, v2, v3, v4⟩, _⟩ := A2.here j y hy
          have hw3 : sep cu k = (cu.set j (Cr.blank y.b)).set k (Cr.blank x.b) := by rw [← hk]; exact sep_two_set hy (by rw [hk]; exact hx) hw
          have hjl : j < cu.length := by omega
          have HW := Lib.hid ((A2.put j (Cr.blank y.b) hjl).put k (Cr.blank x.b) (by rw [List.length_set]; exact hkl2)).drew
          rw [← hw3, ← HS.out] at HW
          have C1 := Lib.hid c1
          have C2 := Lib.hid c2
          clear A1 A2 c1 c2
          go_wp2
          go_region_law (first | (go_simp; refine C1.out.mono ?_; rintro e w' ⟨rfl, rfl⟩) | (go_simp; refine C2.out.mono ?_; rintro e w' ⟨rfl, rfl⟩))
          all_goals
            clear C1 C2 p0 p1 p2 p3 p4 r0 r1 r2 r3 r4 s0 s1 s2 s3 s4 u0 u1 u2 u3 u4 v0 v1 v2 v3 v4 hf hf1 hf2
            go_wp2
            go_roundg g'
            case measure => omega
            case rel => exact ⟨q + 1, by omega, by omega, by go_num, by rw [HNX.out]; exact HW.out⟩
        · have hwb : (x.w == 0) = false := by simpa using hw
          have e : nx = cu := by rw [HS.out]; exact sep_keep hx hw
          have HE := Lib.hid e
          clear e
          go_wp2
          go_roundg g'
          case measure => omega
          case rel => exact ⟨q + 1, by omega, by omega, by go_num, by rw [HNX.out, HE.out]; exact hA.out⟩
      · have hkz1 : ¬ (k : Int) < (n : Int) := by omega
        have e : nx = cu := by rw [HS.out]; exact sep_none (by rw [HLS.out]; exact hkn')
        have HE := Lib.hid e
        clear e
        go_wp2
        go_roundg g'
        case measure => omega
        case rel => exact ⟨q + 1, by omega, by omega, by go_num, by rw [HNX.out, HE.out]; exact hA.out⟩
    · have hz : ¬ (q : Int) < (m : Int) := by omega
      have hq : q = m := by omega
      subst hq
      go_wp2
      go_ret
      refine ⟨g, cap, rfl, ?_⟩
      have := hA.out
      rwa [← HM.out, List.take_length] at this

end Go.Proofs.YtgmgnlgolhjhmaaDoor
