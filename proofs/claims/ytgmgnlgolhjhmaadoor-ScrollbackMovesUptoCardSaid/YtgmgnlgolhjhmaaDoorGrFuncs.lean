/-
  What the small functions of grid return: isSize, gridOf, blankRows, copyRows, fitRows; slices.Grow and slices.Concat of slices of rows.
-/
import Derived.Test.YtgmgnlgolhjhmaaDoorGrRows
import Derived.Test.YtgmgnlgolhjhmaaDoorGrMath
import Derived.Lib.AppendZerosOnto
namespace Go.Proofs.YtgmgnlgolhjhmaaDoor
open Go.RowKit Go.Shelf Cr Gd

set_option maxRecDepth 100000 in
theorem isSize_any (a b : Int) (w : World) : Calls Tryd.prog 39 #[.int .i64 a, .int .i64 b] w fun e w' => e = .returned (.bool (decide (sizeOk a b))) ∧ w = w' := by
  by_cases h1 : 1 ≤ a
  · by_cases h2 : a ≤ 132
    · by_cases h3 : 1 ≤ b
      · by_cases h4 : b ≤ 60
        · rw [decide_eq_true ⟨h1, h2, h3, h4⟩]
          go_enter Tryd.func39, Tryd.ntmps39
          go_wp2
          go_ret
          exact ⟨rfl, rfl⟩
        · rw [decide_eq_false (fun e => h4 e.2.2.2)]
          go_enter Tryd.func39, Tryd.ntmps39
          go_wp2
          go_ret
          exact ⟨rfl, rfl⟩
      · rw [decide_eq_false (fun e => h3 e.2.2.1)]
        go_enter Tryd.func39, Tryd.ntmps39
        go_wp2
        go_ret
        exact ⟨rfl, rfl⟩
    · rw [decide_eq_false (fun e => h2 e.2.1)]
      go_enter Tryd.func39, Tryd.ntmps39
      go_wp2
      go_ret
      exact ⟨rfl, rfl⟩
  · rw [decide_eq_false (fun e => h1 e.1)]
    go_enter Tryd.func39, Tryd.ntmps39
    go_wp2
    go_ret
    exact ⟨rfl, rfl⟩

set_option maxRecDepth 100000 in
theorem gridOf_any (W : Int) (A : Option Addr) (n c : Nat) (w : World) : Calls Tryd.prog 45 #[.int .i64 W, .slice A n c] w fun e w' => e = .returned (.agg #[.int .i64 W, .int .i64 (n : Int), .slice A n c]) ∧ Below w.heap.size w w' := by
  go_enter Tryd.func45, Tryd.ntmps45
  go_wp2
  refine bodyPost_ret (results_cell_row rfl _ _ _ 35 _ (0, 0) _ rfl (heap_alloc_new w _) Tryd.underlying35 rfl (by kernel_rfl)) rfl ⟨rfl, (Below.refl _ _).alloc (Nat.le_refl _) _⟩

theorem set_next (L : List (List C)) (n k : Nat) (l : List C) (hk : L.length = k) (hkn : k < n) : (L ++ List.replicate (n - k) []).set k l = (L ++ [l]) ++ List.replicate (n - (k + 1)) [] := by
  obtain ⟨r, hr⟩ : ∃ r, n - k = r + 1 := ⟨n - k - 1, by omega⟩
  have e : n - (k + 1) = r := by omega
  rw [hr, e, List.set_append_right _ _ (by omega), hk, Nat.sub_self, List.replicate_succ, List.set_cons_zero]
  simp

/-- The function that makes blank rows: what it holds. -/
def Bl (w : World) (p q : Nat) (W b : Int) : Prop := p < w.heap.size ∧ q < w.heap.size ∧ w.cell? ⟨p, 0, none⟩ = some (.int .i64 W) ∧ w.cell? ⟨q, 0, none⟩ = some (.int .i64 b)
theorem Bl.below {w w' : World} {p q : Nat} {W b : Int} (h : Bl w p q W b) (hb : Below w.heap.size w w') : Bl w' p q W b :=
  ⟨Nat.lt_of_lt_of_le h.1 hb.size, Nat.lt_of_lt_of_le h.2.1 hb.size, (hb.cell (p := ⟨p, 0, none⟩) h.1).trans h.2.2.1, (hb.cell (p := ⟨q, 0, none⟩) h.2.1).trans h.2.2.2⟩

set_option maxHeartbeats 2000000 in
set_option maxRecDepth 100000 in
theorem blankFn_any (p q : Nat) (v : Nat) (b : Int) (n : Nat) (hn : n ≤ 1000) (hv : 1 ≤ v ∧ v ≤ 132) (w : World) (hB : Bl w p q (v : Int) b) :
    Calls Tryd.prog 55 #[.int .i64 (n : Int), .pointer (some ⟨p, 0, none⟩), .pointer (some ⟨q, 0, none⟩)] w fun e w' => ∃ g, e = .returned (.slice (some ⟨g, 0, none⟩) n n) ∧ GR w w' (.slice (some ⟨g, 0, none⟩) n n) (List.replicate n (blanks v b)) := by
  obtain ⟨w1, hmk, hG⟩ := GR.made w n hn
  have HB := Lib.hid hB
  have HG := Lib.hid hG
  have hnz : (n : Int) ≤ 1000 := by omega
  have hn0 : (0 : Int) ≤ (n : Int) := by omega
  have CB := Lib.hid (fun W => blankRow_any (v : Int) 0 b 0 W)
  rw [if_pos (by omega), Int.toNat_natCast] at CB
  clear hG hB
  go_enter Tryd.func55, Tryd.ntmps55
  go_wp2
  go_loopg [6, 11] (n + 1) (fun gk _ v11 wr => ∃ k : Nat, gk + k = n + 1 ∧ k ≤ n ∧ v11 = .int .i64 (k : Int) ∧ Aside (GR w wr (.slice (some ⟨w.heap.size, 0, none⟩) n n) (List.replicate k (blanks v b) ++ List.replicate (n - k) [])))
  case atStart => exact ⟨0, by omega, Nat.zero_le _, rfl, by show GR _ _ _ _; simpa using HG.out⟩
  case round =>
    obtain ⟨k, hg, hkn, rfl, hA⟩ := hrel
    by_cases hlt : k < n
    · obtain ⟨g', rfl⟩ : ∃ g', gk = g' + 1 := ⟨gk - 1, by omega⟩
      have hz : (k : Int) < (n : Int) := by omega
      have hz0 : (0 : Int) ≤ (k : Int) := by omega
      have HA := Lib.hid hA.out
      obtain ⟨_, _, b1, b2⟩ := HB.out.below HA.out.bel
      have HS := Lib.hid (set_next (List.replicate k (blanks v b)) n k (blanks v b) (by simp) hlt)
      clear hA
      go_wp2_with fail
      refine (CB.out wr).mono ?_
      rintro e w2 ⟨A2, n2, c2, rfl, hGv, hF⟩
      have hA2 := HA.out.below hGv.2.2
      have hin := GivesIn hGv.1 hGv.2.1 (by rw [← hGv.1.1, blanks_length]; omega)
      have hset := hA2.set k _ _ hlt hin (Off.fresh HA.out hF)
      rw [HS.out] at hset
      obtain ⟨hf, x, hx⟩ := hA2.free k hlt
      have HW := Lib.hid hset
      clear hset hin hA2 hGv hF b1 b2
      go_wp2
      go_roundg g'
      case measure => omega
      case rel => exact ⟨k + 1, by omega, by omega, by go_num, by rw [List.replicate_succ']; exact HW.out⟩
    · have hz : ¬ (k : Int) < (n : Int) := by omega
      have hq : k = n := by omega
      subst hq
      go_wp2
      go_ret
      refine ⟨_, rfl, ?_⟩
      have := hA.out
      rw [Nat.sub_self, List.replicate_zero, List.append_nil] at this
      exact this

set_option maxHeartbeats 2000000 in
set_option maxRecDepth 100000 in
theorem copyRows_any (A : Option Addr) (n c : Nat) (L : List (List C)) (hn : n ≤ 1000) (w : World) (hr : RdR w A n L) (hp : ∀ l ∈ L, 1 ≤ l.length ∧ l.length ≤ 1000) :
    Calls Tryd.prog 44 #[.slice A n c] w fun e w' => ∃ g, e = .returned (.slice (some ⟨g, 0, none⟩) n n) ∧ GR w w' (.slice (some ⟨g, 0, none⟩) n n) L := by
  have hl : L.length = n := hr.1
  obtain ⟨w1, hmk, hG⟩ := GR.made w n hn
  have HR := Lib.hid hr
  have HP := Lib.hid hp
  have HL := Lib.hid hl
  have HG := Lib.hid hG
  have hnz : (n : Int) ≤ 1000 := by omega
  have hn0 : (0 : Int) ≤ (n : Int) := by omega
  clear hG hr hp hl
  go_enter Tryd.func44, Tryd.ntmps44
  go_wp2
  go_loopg [4, 5, 11] (n + 1) (fun gk _ _ v11 wr => ∃ k : Nat, gk + k = n + 1 ∧ k ≤ n ∧ v11 = .int .i64 (k : Int) ∧ Aside (GR w wr (.slice (some ⟨w.heap.size, 0, none⟩) n n) (L.take k ++ List.replicate (n - k) [])))
  case atStart => exact ⟨0, by omega, Nat.zero_le _, rfl, by show GR _ _ _ _; simpa using HG.out⟩
  case round =>
    obtain ⟨k, hg, hkn, rfl, hA⟩ := hrel
    by_cases hlt : k < n
    · obtain ⟨g', rfl⟩ : ∃ g', gk = g' + 1 := ⟨gk - 1, by omega⟩
      have hz : (k : Int) < (n : Int) := by omega
      have hz0 : (0 : Int) ≤ (k : Int) := by omega
      have hkl : k < L.length := by rw [HL.out]; exact hlt
      obtain ⟨l, hx⟩ : ∃ l, L[k]? = some l := ⟨L[k], List.getElem?_eq_getElem hkl⟩
      have HA := Lib.hid hA.out
      obtain ⟨b, off, A', m, c', rfl, _, hc, hrd, _⟩ := (HR.out.below HA.out.bel).at k l hx
      have hlp := HP.out l (List.mem_of_getElem? hx)
      have hm : l.length = m := hrd.1
      obtain ⟨ab, ao, rfl⟩ := hrd.addr (by omega)
      have HS := Lib.hid (set_next (L.take k) n k l (by rw [List.length_take]; omega) hlt)
      have htk : L.take (k + 1) = L.take k ++ [l] := by rw [List.take_add_one, hx]; rfl
      have HTK := Lib.hid htk
      have CC := Lib.hid (cloneR_any ab ao m c' l (by omega) wr hrd)
      clear hA hx htk hrd
      go_wp2_with fail
      refine CC.out.mono ?_
      rintro e w2 ⟨g2, cap, rfl, hO⟩
      have hA2 := HA.out.below hO.2
      have hin := GivesIn (c := cap) hO.rd.1 ⟨hO.rd.2, hO.mine.cap⟩ (by omega)
      have hset := hA2.set k _ _ hlt hin (Off.fresh HA.out hO.mine.fr)
      rw [HS.out] at hset
      obtain ⟨hf, x, hx⟩ := hA2.free k hlt
      have HW := Lib.hid hset
      clear hset hin hA2 hO hc CC
      go_wp2
      go_roundg g'
      case measure => omega
      case rel => exact ⟨k + 1, by omega, by omega, by go_num, by rw [HTK.out]; exact HW.out⟩
    · have hz : ¬ (k : Int) < (n : Int) := by omega
      have hq : k = n := by omega
      subst hq
      go_wp2
      go_ret
      refine ⟨_, rfl, ?_⟩
      have := hA.out
      rw [Nat.sub_self, List.replicate_zero, List.append_nil, List.take_of_length_le (by rw [HL.out]; exact Nat.le_refl _)] at this
      exact this

set_option maxHeartbeats 2000000 in
set_option maxRecDepth 100000 in
theorem grow_any (n : Nat) (hn : n ≤ 10000) (w : World) :
    Calls Tryd.prog 46 #[.slice none 0 0, .int .i64 (n : Int)] w fun e w' => ∃ A c, e = .returned (.slice A 0 c) ∧ GR w w' (.slice A 0 c) [] := by
  rcases Nat.eq_zero_or_pos n with h0 | h0
  · subst h0
    go_enter Tryd.func46, Tryd.ntmps46
    go_wp2
    go_ret
    exact ⟨none, 0, rfl, GR.start w⟩
  · obtain ⟨i0, hi, hz0, hz1, hz2⟩ := info_parts Tryd.infoRow
    have hold : (Builtin.firstCells i0.size 0 (.slice none 0 0)).run Tryd.prog w.drew = .ok (([] : List Value).toArray) w.drew := run_firstCells_none w.drew i0.size 0 0 0
    have hrz : ∀ ty, (Builtin.append_ #[22, 3] ty #[.slice none 0 0, .int .i64 (n : Int)]).run Tryd.prog w = _ := fun ty =>
      Lib.run_append_grow_zeros w 22 3 ty 25 i0 _ .i64 .i64 Tryd.underlying22 Tryd.underlying3 hi hz0 none 0 0 [] hold n h0 (by rw [hz1]; decide) (by omega) (by omega) (by rw [hz2]; omega) (growslice_fits (by omega) (by rw [hz2]; omega))
    have hG : ∀ (G : Nat), n ≤ G → G ≤ maxLen → GR w (w.drew.alloc (.cells (([] : List Value).toArray ++ Builtin.zeroCells (Value.slice none 0 0).cells n ++ Builtin.zeroCells (Value.slice none 0 0).cells (G - n)) 25)) (.slice (some ⟨w.heap.size, 0, none⟩) 0 G) [] := fun G hG hm => by
      refine ⟨[], ⟨rfl, .inr ⟨w.heap.size, G, _, rfl, Nat.le_refl _, heap_alloc_new w.drew _, Nat.zero_le _, hm, ?_, by simp⟩⟩, (Below.refl _ _).drew.alloc (Nat.le_refl _) _, fun j h l hj => by simp at hj⟩
      have e1 : (Value.slice none 0 0).cells.size = 1 := rfl
      simp only [Array.size_append, size_zeroCells, e1]
      simp
      omega
    have hge : n ≤ grownCap w (0 + n) 0 25 := by have := grownCap_ge w (0 + n) 0 25; omega
    have hle : grownCap w (0 + n) 0 25 ≤ maxLen := grownCap_le_maxLen w (0 + n) 0 _ (by unfold maxLen; omega)
    rw [Nat.zero_add] at hrz hge hle
    obtain ⟨G, hGG⟩ : ∃ G, grownCap w n 0 25 = G := ⟨_, rfl⟩
    rw [hGG] at hrz hge hle
    have HG := Lib.hid (hG G hge hle)
    have hn0 : ¬ (n : Int) < 0 := by omega
    have hnp : (n : Int) > 0 := by omega
    have hnz : (n : Int) ≤ 10000 := by omega
    have hG63 : G ≤ 9223372036854775807 := by unfold maxLen at hle; omega
    clear hG hold hGG
    go_enter Tryd.func46, Tryd.ntmps46
    go_wp2_with (at_builtin; refine Lib.wpList_append_run _ rfl _ _ _ _ rfl _ _ rfl rfl _ _ (hrz _) ?_)
    go_ret
    have h := HG.out
    rw [show (([] : List Value).toArray ++ Builtin.zeroCells (Value.slice none 0 0).cells n) = Builtin.zeroCells (Value.slice none 0 0).cells n from Array.empty_append] at h
    exact ⟨_, _, rfl, h⟩

/-- A slice of rows that is one of several. -/
def Prt (w : World) (v : Value) (L : List (List C)) : Prop := ∃ A n c, v = .slice A n c ∧ RdR w A n L ∧ (A = none → n = 0 ∧ c = 0)
theorem flat_le (Ls : List (List (List C))) : ∀ q, (Ls.take q).flatten.length ≤ Ls.flatten.length := by
  intro q
  have h := congrArg (fun x => List.length (List.flatten x)) (List.take_append_drop q Ls)
  simp only [List.flatten_append, List.length_append] at h
  omega
theorem flat_next {Ls : List (List (List C))} {q : Nat} {L : List (List C)} (h : Ls[q]? = some L) : (Ls.take (q + 1)).flatten = (Ls.take q).flatten ++ L := by
  rw [List.take_add_one, h, List.flatten_append]
  simp

set_option maxHeartbeats 4000000 in
set_option maxRecDepth 100000 in
theorem concat_any (p k : Nat) (ps : List Value) (Ls : List (List (List C))) (w : World) (hk : ps.length = k) (hk2 : Ls.length = k) (hkk : k ≤ 10) (hp : w.heap[p]? = some (.cells ps.toArray 22)) (hP : ∀ (j : Nat) v L, ps[j]? = some v → Ls[j]? = some L → Prt w v L) (hn : Ls.flatten.length ≤ 1000) :
    Calls Tryd.prog 33 #[.slice (some ⟨p, 0, none⟩) k k] w fun e w' => ∃ A c, e = .returned (.slice A Ls.flatten.length c) ∧ GR w w' (.slice A Ls.flatten.length c) Ls.flatten := by
  have HK := Lib.hid hk
  have HK2 := Lib.hid hk2
  have HP := Lib.hid hP
  have HPP := Lib.hid hp
  have HPL := Lib.hid (Array.getElem?_eq_some_iff.1 hp).1
  have hle := fun q => flat_le Ls q
  have HLE := Lib.hid hle
  have HN := Lib.hid hn
  have hkz : (k : Int) ≤ 10 := by omega
  have CG := Lib.hid (fun W => grow_any Ls.flatten.length (by omega) W)
  obtain ⟨FL, hFL⟩ : ∃ FL, Ls.flatten = FL := ⟨_, rfl⟩
  rw [hFL] at CG HN HLE ⊢
  have HFL := Lib.hid hFL
  clear hP hp hk hk2 hle hFL hn
  go_enter Tryd.func33, Tryd.ntmps33
  go_wp2
  go_loopg [3, 5, 11] (k + 1) (fun gk v3 _ v11 wr => ∃ (q u : Nat), gk + q = k + 1 ∧ q ≤ k ∧ v11 = .int .i64 (q : Int) ∧ v3 = .int .i64 (u : Int) ∧ w = wr ∧ Aside ((Ls.take q).flatten.length = u))
  case atStart => exact ⟨0, 0, by omega, Nat.zero_le _, rfl, rfl, rfl, rfl⟩
  case round =>
    obtain ⟨q, u, hg, hqk, rfl, rfl, rfl, hA⟩ := hrel
    by_cases hlt : q < k
    · obtain ⟨g', rfl⟩ : ∃ g', gk = g' + 1 := ⟨gk - 1, by omega⟩
      have hz : (q : Int) < (k : Int) := by omega
      have hz0 : (0 : Int) ≤ (q : Int) := by omega
      obtain ⟨v, hv⟩ : ∃ v, ps[q]? = some v := ⟨ps[q]'(by rw [HK.out]; exact hlt), List.getElem?_eq_getElem _⟩
      obtain ⟨L, hL⟩ : ∃ L, Ls[q]? = some L := ⟨Ls[q]'(by rw [HK2.out]; exact hlt), List.getElem?_eq_getElem _⟩
      obtain ⟨A2, n2, c2, rfl, hr, _⟩ := HP.out q v L hv hL
      have hc : w.cell? ⟨p, q, none⟩ = some (.slice A2 n2 c2) := by rw [cell_of_row w p q _ _ _ HPP.out]; simpa using hv
      have hnx := flat_next hL
      have hln : (Ls.take (q + 1)).flatten.length = u + n2 := by rw [hnx, List.length_append, hA.out, hr.1]
      have hb1 := HLE.out (q + 1)
      have hN := HN.out
      have hsum : (u : Int) + (n2 : Int) ≤ 1000 := by omega
      have hs0 : ¬ (u : Int) + (n2 : Int) < 0 := by omega
      have HLN := Lib.hid hln
      clear hv hL hr hnx hln hb1 hN hA
      go_wp2
      go_roundg g'
      case measure => omega
      case rel => exact ⟨q + 1, u + n2, by omega, by omega, by go_num, by go_num, rfl, HLN.out⟩
    · have hz : ¬ (q : Int) < (k : Int) := by omega
      have hqk' : q = k := by omega
      subst hqk'
      have hu : u = FL.length := by have := hA.out; rw [List.take_of_length_le (by rw [HK2.out]; exact Nat.le_refl _), HFL.out] at this; exact this.symm
      rw [← hu] at CG
      have HU := Lib.hid hu
      clear hu hA
      go_wp2_with fail
      refine (CG.out w).mono ?_
      rintro e w1 ⟨A1, c1, rfl, hG1⟩
      have HG1 := Lib.hid hG1
      clear hG1
      go_wp2
      go_loopg [6, 8, 27] (q + 1) (fun gk v6 _ v27 wr => ∃ (j : Nat), gk + j = q + 1 ∧ j ≤ q ∧ v27 = .int .i64 (j : Int) ∧ ∃ A m c, v6 = .slice A m c ∧ Aside (m = (Ls.take j).flatten.length ∧ GR w wr (.slice A m c) (Ls.take j).flatten))
      case atStart => exact ⟨0, by omega, Nat.zero_le _, rfl, A1, 0, c1, rfl, rfl, HG1.out⟩
      case round =>
        obtain ⟨j, hgj, hjq, rfl, A3, m3, c3, rfl, hA⟩ := hrel
        by_cases hjlt : j < q
        · obtain ⟨g', rfl⟩ : ∃ g', gk = g' + 1 := ⟨gk - 1, by omega⟩
          have hz : (j : Int) < (q : Int) := by omega
          have hz0 : (0 : Int) ≤ (j : Int) := by omega
          obtain ⟨v, hv⟩ : ∃ v, ps[j]? = some v := ⟨ps[j]'(by rw [HK.out]; exact hjlt), List.getElem?_eq_getElem _⟩
          obtain ⟨L, hL⟩ : ∃ L, Ls[j]? = some L := ⟨Ls[j]'(by rw [HK2.out]; exact hjlt), List.getElem?_eq_getElem _⟩
          obtain ⟨A2, n2, c2, rfl, hr, hnil⟩ := HP.out j v L hv hL
          have hc0 : w.cell? ⟨p, j, none⟩ = some (.slice A2 n2 c2) := by rw [cell_of_row w p j _ _ _ HPP.out]; simpa using hv
          have hG := hA.out.2
          have hc := (hG.bel.cell (p := ⟨p, j, none⟩) HPL.out).trans hc0
          have hnx := flat_next hL
          have hb1 := HLE.out (j + 1)
          have hN := HN.out
          rw [hnx, List.length_append] at hb1
          obtain ⟨LL, hLL⟩ : ∃ LL, (Ls.take j).flatten = LL := ⟨_, rfl⟩
          rw [hLL] at hG hnx hb1
          have hl1 : LL.length + L.length ≤ 100000 := by omega
          have HY := Lib.hid (hr.old hG)
          have HGG := Lib.hid hG
          have HNX := Lib.hid hnx
          have HNIL := Lib.hid hnil
          clear hv hL hr hnx hb1 hN hA hc0 hG hnil hLL
          go_wp2_with (at_builtin; refine wpList_joinR rfl (.tmp 31) (.tmp 32) rfl w wr _ _ _ A2 n2 c2 rfl rfl HGG.out HY.out HNIL.out hl1 ?_; intro A4 c4 w4 hO4; have HO4 := Lib.hid hO4.out.1; clear hO4)
          go_roundg g'
          case measure => omega
          case rel =>
            refine ⟨j + 1, by omega, by omega, by go_num, _, _, _, rfl, ?_⟩
            rw [HNX.out]
            exact ⟨(List.length_append).symm, HO4.out⟩
        · have hz : ¬ (j : Int) < (q : Int) := by omega
          have hjq' : j = q := by omega
          subst hjq'
          have hh := hA.out
          rw [List.take_of_length_le (by rw [HK2.out]; exact Nat.le_refl _), HFL.out] at hh
          have HH := Lib.hid hh
          clear hh hA
          go_wp2
          go_ret
          have h1 := HH.out.1
          subst h1
          exact ⟨_, _, rfl, HH.out.2⟩

end Go.Proofs.YtgmgnlgolhjhmaaDoor
