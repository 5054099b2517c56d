/-
  The iterator over the visible rows of a scrollback and a grid: what it hands over, for every loop body that keeps what it reads.
-/
import Derived.RangeFuncNested
import Derived.RangeFuncBound
import Derived.RangeFuncCalls
import Derived.RangeFuncLeaves
import Derived.Shelf.Abstract
import Derived.Shelf.RegionOpen
import Derived.WalkKit
import Derived.OwnWalkIn
import Derived.TacticsInMore
import Derived.LoopNIn
import Derived.LoopIn
import Derived.Test.YtgmgnlgolhjhmaaDoorGrEnd
namespace Go.Proofs.YtgmgnlgolhjhmaaDoor
open Go.RowKit Go.Shelf Cr Gd
attribute [local go_sem] Oper.semAt_some

/-- A row of the world W: its header, and how it reads. -/
abbrev Hd (W : World) := { x : Value × List C // In W x.1 x.2 ∧ Sm x.2 }
/-- The headers of a slice of rows. -/
theorem RdR.heads {w : World} {A : Option Addr} {n : Nat} {L : List (List C)} (h : RdR w A n L) (hs0 : SmR L) : ∃ hs : List (Hd w), hs.map (fun x => x.1.2) = L ∧ ∀ (j : Nat) (x : Hd w), hs[j]? = some x → ∃ b off, A = some ⟨b, off, none⟩ ∧ b < w.heap.size ∧ w.cell? ⟨b, off + j, none⟩ = some x.1.1 := by
  have key : ∀ k, k ≤ L.length → ∃ hs : List (Hd w), hs.map (fun x => x.1.2) = L.take k ∧ ∀ (j : Nat) (x : Hd w), hs[j]? = some x → ∃ b off, A = some ⟨b, off, none⟩ ∧ b < w.heap.size ∧ w.cell? ⟨b, off + j, none⟩ = some x.1.1 := by
    intro k
    induction k with
    | zero => intro _; exact ⟨[], rfl, fun j x hj => by simp at hj⟩
    | succ k ih =>
      intro hk
      obtain ⟨hs, e, hh⟩ := ih (by omega)
      obtain ⟨b, off, x, eA, hlt, hc, hi, _⟩ := h.2 k L[k] (List.getElem?_eq_getElem (by omega))
      have hl : hs.length = k := by have := congrArg List.length e; simp at this; omega
      refine ⟨hs ++ [⟨(x, L[k]), hi, hs0 _ (List.getElem_mem _)⟩], ?_, fun j y hj => ?_⟩
      · rw [List.map_append, e, List.take_add_one, List.getElem?_eq_getElem (by omega)]; rfl
      · rcases Nat.lt_or_ge j k with hlt' | hge
        · rw [List.getElem?_append_left (by omega)] at hj; exact hh j y hj
        · rw [List.getElem?_append_right (by omega)] at hj
          have e0 : j - hs.length = 0 := by
            rcases Nat.eq_zero_or_pos (j - hs.length) with h0 | h0
            · exact h0
            · rw [List.getElem?_eq_none (by simp; omega)] at hj; cases hj
          rw [e0] at hj
          have e1 : (⟨(x, L[k]), hi, hs0 _ (List.getElem_mem _)⟩ : Hd w) = y := by simpa using hj
          have e2 : j = k := by omega
          subst e1 e2
          exact ⟨b, off, eA, hlt, hc⟩
  obtain ⟨hs, e, hh⟩ := key L.length (Nat.le_refl _)
  exact ⟨hs, by rw [e, List.take_length], hh⟩

/-- The variables that the iterator reads: the scrollback, the first visible row, how many there are of the scrollback, the grid. -/
def Cap (W : World) (p q r k : Nat) (A : Option Addr) (n c o s : Nat) (v h : Int) (A2 : Option Addr) (n2 c2 : Nat) : Prop :=
  Boxed W p 22 (.slice A n c) ∧ Boxed W q 3 (.int .i64 (o : Int)) ∧ Boxed W r 3 (.int .i64 (s : Int)) ∧ Kg W k v h A2 n2 c2

/-- What a round that goes on keeps. -/
def Kp (w0 : World) (p q r k : Nat) (A : Option Addr) (n c o s : Nat) (v h : Int) (A2 : Option Addr) (n2 c2 : Nat) (W W' : World) : Prop :=
  Below w0.heap.size W W' ∧ (Cap W p q r k A n c o s v h A2 n2 c2 → Cap W' p q r k A n c o s v h A2 n2 c2)
theorem Kp.trans {w0 : World} {p q r k : Nat} {A : Option Addr} {n c o s : Nat} {v h : Int} {A2 : Option Addr} {n2 c2 : Nat} {W1 W2 W3 : World} (a : Kp w0 p q r k A n c o s v h A2 n2 c2 W1 W2) (b : Kp w0 p q r k A n c o s v h A2 n2 c2 W2 W3) : Kp w0 p q r k A n c o s v h A2 n2 c2 W1 W3 :=
  ⟨a.1.trans b.1, fun x => b.2 (a.2 x)⟩

set_option maxRecDepth 100000 in
set_option maxHeartbeats 4000000 in
theorem visible1_in (F : Fence) (N : Nat) (h47 : F.fn 47) (hro : F.round = none) (hN : 1 ≤ N) (l p q r k : Nat) (A : Option Addr) (n c o s g : Nat) (v : Int) (b2 off2 n2 c2 : Nat) (w0 : World)
    (xs ys : List (Hd w0)) (hxs : xs.length = s) (hys : ys.length = g) (hos : o + s ≤ n) (hnc : n ≤ c) (hnm : n ≤ 9223372036854775807) (hnil : A = none → c = 0) (hgn : g ≤ n2) (hn2 : n2 ≤ c2) (hn2m : n2 ≤ 9223372036854775807)
    (hX : ∀ (j : Nat) (x : Hd w0), xs[j]? = some x → ∃ b off, A = some ⟨b, off, none⟩ ∧ b < w0.heap.size ∧ w0.cell? ⟨b, off + o + j, none⟩ = some x.1.1)
    (hY0 : ∀ (j : Nat) (x : Hd w0), ys[j]? = some x → b2 < w0.heap.size ∧ w0.cell? ⟨b2, off2 + j, none⟩ = some x.1.1)
    (J Jx : List (Hd w0) → World → Prop)
    (hY : ∀ pre x W, J pre W → pre.length < (xs ++ ys).length → YieldAt F (N - 1) Tryd.prog l #[x.1.1] W fun e W' =>
      (e = .returned (.bool true) ∧ J (pre ++ [x]) W' ∧ Kp w0 p q r k A n c o s v ((g + s : Nat) : Int) (some ⟨b2, off2, none⟩) n2 c2 W W') ∨ (e = .returned (.bool false) ∧ Jx (pre ++ [x]) W'))
    (W : World) (hbel : Below w0.heap.size w0 W) (hC : Cap W p q r k A n c o s v ((g + s : Nat) : Int) (some ⟨b2, off2, none⟩) n2 c2) (h0 : J [] W) :
    CallsIn F N Tryd.prog 47 #[.func (.yield l) #[] #[], .pointer (some ⟨p, 0, none⟩), .pointer (some ⟨q, 0, none⟩), .pointer (some ⟨r, 0, none⟩), .pointer (some ⟨k, 0, none⟩)] W fun e W' => (∃ v, e = .returned v) ∧
      ((∃ zs, zs = xs ++ ys ∧ J zs W') ∨ (∃ pre, pre <+: (xs ++ ys) ∧ Jx pre W')) := by
  have HC := Lib.hid hC
  have q0 := hC.1.cell
  have q1 := hC.2.1.cell
  have q2 := hC.2.2.1.cell
  clear hC
  have z1 : (0 : Int) ≤ (o : Int) := by omega
  have z2 : (0 : Int) ≤ (s : Int) := by omega
  cases A with
  | none =>
    obtain rfl : c = 0 := hnil rfl
    obtain rfl : n = 0 := by omega
    obtain rfl : o = 0 := by omega
    obtain rfl : s = 0 := by omega
    obtain rfl : xs = [] := List.eq_nil_of_length_eq_zero hxs
    refine callsIn_of_wp Tryd.func47 rfl h47 ?_ hro
    simp only [Tryd.ntmps47, List.size_toArray, List.length_cons, List.length_nil, Nat.reduceAdd, Nat.reduceSub, Array.replicate_succ, Array.replicate_zero, List.push_toArray, List.append_toArray, List.nil_append, List.cons_append]
    gi_wp2
    gi_loopw [7, 17] (fun _ v17 wr => v17 = .int .i64 0 ∧ J [] wr ∧ Kp w0 p q r k none 0 0 0 0 v ((g + 0 : Nat) : Int) (some ⟨b2, off2, none⟩) n2 c2 W wr)
      (fun _ _ _ => 0)
    case atStart => exact ⟨rfl, h0, Below.refl _ _, fun x => x⟩
    case round =>
      obtain ⟨rfl, hJ, hK⟩ := hrel
      obtain ⟨j, hj⟩ : ∃ j : Nat, j = 0 := ⟨0, rfl⟩
      have hxx : ([] : List (Hd w0)) = [] := rfl
      obtain ⟨c0, c1', c2', c3⟩ := hK.2 HC.out
      have q2 := Boxed.cell c2'
      have q3 := c3.c1
      have q4 := c3.c2
      have y1 : (0 : Int) ≤ (g : Int) := by omega
      have y2 : ((g + 0 : Nat) : Int) - (0 : Int) = (g : Int) := by omega
      have y3 : (g : Int) ≤ (c2 : Int) := by omega
      have y4 : (g : Int) ≤ 9223372036854775807 := by omega
      clear c0 c1' c2' c3
      gi_wp2
      gi_loopw [9, 34] (fun _ v34 wr => ∃ i : Nat, i ≤ g ∧ v34 = .int .i64 (i : Int) ∧ J (([] : List (Hd w0)) ++ ys.take i) wr ∧ Kp w0 p q r k none 0 0 0 0 v ((g + 0 : Nat) : Int) (some ⟨b2, off2, none⟩) n2 c2 W wr)
        (fun _ v34 _ => g - (intOf v34).toNat)
      case atStart => exact ⟨0, Nat.zero_le _, rfl, by simpa using hJ, hK⟩
      case round =>
        obtain ⟨i, hig, rfl, hJ, hK⟩ := hrel
        by_cases hlt : i < g
        · obtain ⟨x, hx⟩ : ∃ x, ys[i]? = some x := ⟨ys[i]'(by omega), List.getElem?_eq_getElem _⟩
          obtain ⟨hb, hc0⟩ := hY0 i x hx
          have hc : wr.cell? ⟨b2, off2 + i, none⟩ = some x.1.1 := ((hbel.trans hK.1).cell (p := ⟨b2, off2 + i, none⟩) hb).trans hc0
          obtain ⟨fn, tmps, assign, body, hy, hR⟩ := hY _ x wr hJ (by rw [List.length_append, List.length_append, List.length_take]; omega)
          have htk : (([] : List (Hd w0)) ++ ys.take i) ++ [x] = ([] : List (Hd w0)) ++ ys.take (i + 1) := by rw [List.take_add_one, hx, List.append_assoc]; rfl
          rw [htk] at hR
          clear hX hY0 hY q0 q1 q2 q3 q4
          have hz : (i : Int) < (g : Int) := by omega
          have hz0 : (0 : Int) ≤ (i : Int) := by omega
          gi_wp2
          refine hR.mono ?_
          rintro e W3 (⟨rfl, hJ3, hk3⟩ | ⟨rfl, hJx3⟩)
          · gi_wp2
            go_roundw
            case rel => exact ⟨i + 1, by omega, by simp, hJ3, hK.trans hk3⟩
            case measure => simp [intOf]; omega
          · gi_wp2
            refine bodyPost_ret (results_none rfl _ _ _) rfl ?_
            exact ⟨⟨_, rfl⟩, .inr ⟨_, (List.prefix_append_right_inj ([] : List (Hd w0))).2 (List.take_prefix _ _), hJx3⟩⟩
        · obtain rfl : i = g := by omega
          have hz : ¬ (i : Int) < (i : Int) := by omega
          have hyi : ys.take i = ys := List.take_of_length_le (by omega)
          rw [hyi] at hJ
          gi_wp2
          go_end0
          exact ⟨⟨_, rfl⟩, .inl hJ⟩
  | some ad =>
    obtain ⟨b, off, sp⟩ := ad
    obtain ⟨R, hR⟩ : ∃ R, (if c = o then some ⟨b, off, sp⟩ else some ((⟨b, off, sp⟩ : Addr).add o)) = R := ⟨_, rfl⟩
    obtain ⟨u, hu⟩ : ∃ u, o + s = u := ⟨_, rfl⟩
    have z6 : (o : Int) + (s : Int) = (u : Int) := by omega
    have z7 : u - o = s := by omega
    have z3 : (u : Int) ≤ (c : Int) := by omega
    have z5 : (o : Int) ≤ (u : Int) := by omega
    have z8 : (u : Int) ≤ 9223372036854775807 := by omega
    clear hu hnil
    refine callsIn_of_wp Tryd.func47 rfl h47 ?_ hro
    simp only [Tryd.ntmps47, List.size_toArray, List.length_cons, List.length_nil, Nat.reduceAdd, Nat.reduceSub, Array.replicate_succ, Array.replicate_zero, List.push_toArray, List.append_toArray, List.nil_append, List.cons_append]
    gi_wp2
    gi_loopw [7, 17] (fun _ v17 wr => ∃ j : Nat, j ≤ s ∧ v17 = .int .i64 (j : Int) ∧ J (xs.take j) wr ∧ Kp w0 p q r k (some ⟨b, off, sp⟩) n c o s v ((g + s : Nat) : Int) (some ⟨b2, off2, none⟩) n2 c2 W wr)
      (fun _ v17 _ => s - (intOf v17).toNat)
    case atStart => exact ⟨0, Nat.zero_le _, rfl, h0, Below.refl _ _, fun x => x⟩
    case round =>
      obtain ⟨j, hjs, rfl, hJ, hK⟩ := hrel
      by_cases hlt : j < s
      · obtain ⟨x, hx⟩ : ∃ x, xs[j]? = some x := ⟨xs[j]'(by omega), List.getElem?_eq_getElem _⟩
        obtain ⟨b', off', e, hb, hc0⟩ := hX j x hx
        injection e with e
        injection e with e1 e2 e3
        subst e1 e2 e3
        have hco : ¬ c = o := by omega
        rw [if_neg hco, addr_add] at hR
        subst hR
        have hc : wr.cell? ⟨b, off + o + j, none⟩ = some x.1.1 := ((hbel.trans hK.1).cell (p := ⟨b, off + o + j, none⟩) hb).trans hc0
        obtain ⟨fn, tmps, assign, body, hy, hR⟩ := hY _ x wr hJ (by rw [List.length_append, List.length_take]; omega)
        have htk : xs.take j ++ [x] = xs.take (j + 1) := by rw [List.take_add_one, hx]; rfl
        rw [htk] at hR
        clear hX hY0 hY q0 q1 q2
        have hz : (j : Int) < (s : Int) := by omega
        have hz0 : (0 : Int) ≤ (j : Int) := by omega
        gi_wp2
        refine hR.mono ?_
        rintro e W3 (⟨rfl, hJ3, hk3⟩ | ⟨rfl, hJx3⟩)
        · gi_wp2
          go_roundw
          case rel => exact ⟨j + 1, by omega, by simp, hJ3, hK.trans hk3⟩
          case measure => simp [intOf]; omega
        · gi_wp2
          refine bodyPost_ret (results_none rfl _ _ _) rfl ?_
          exact ⟨⟨_, rfl⟩, .inr ⟨_, (List.take_prefix _ _).trans (List.prefix_append _ _), hJx3⟩⟩
      · obtain rfl : j = s := by omega
        have hz : ¬ (j : Int) < (j : Int) := by omega
        have hxj : xs.take j = xs := List.take_of_length_le (by omega)
        rw [hxj] at hJ
        obtain ⟨c0, c1', c2', c3⟩ := hK.2 HC.out
        have q2 := Boxed.cell c2'
        have q3 := c3.c1
        have q4 := c3.c2
        have y1 : (0 : Int) ≤ (g : Int) := by omega
        have y2 : ((g + j : Nat) : Int) - (j : Int) = (g : Int) := by omega
        have y3 : (g : Int) ≤ (c2 : Int) := by omega
        have y4 : (g : Int) ≤ 9223372036854775807 := by omega
        clear c0 c1' c2' c3
        gi_wp2
        gi_loopw [9, 34] (fun _ v34 wr => ∃ i : Nat, i ≤ g ∧ v34 = .int .i64 (i : Int) ∧ J (xs ++ ys.take i) wr ∧ Kp w0 p q r k (some ⟨b, off, sp⟩) n c o j v ((g + j : Nat) : Int) (some ⟨b2, off2, none⟩) n2 c2 W wr)
          (fun _ v34 _ => g - (intOf v34).toNat)
        case atStart => exact ⟨0, Nat.zero_le _, rfl, by simpa using hJ, hK⟩
        case round =>
          obtain ⟨i, hig, rfl, hJ, hK⟩ := hrel
          by_cases hlt : i < g
          · obtain ⟨x, hx⟩ : ∃ x, ys[i]? = some x := ⟨ys[i]'(by omega), List.getElem?_eq_getElem _⟩
            obtain ⟨hb, hc0⟩ := hY0 i x hx
            have hc : wr.cell? ⟨b2, off2 + i, none⟩ = some x.1.1 := ((hbel.trans hK.1).cell (p := ⟨b2, off2 + i, none⟩) hb).trans hc0
            obtain ⟨fn, tmps, assign, body, hy, hR⟩ := hY _ x wr hJ (by rw [List.length_append, List.length_append, List.length_take]; omega)
            have htk : (xs ++ ys.take i) ++ [x] = xs ++ ys.take (i + 1) := by rw [List.take_add_one, hx, List.append_assoc]; rfl
            rw [htk] at hR
            clear hX hY0 hY q0 q1 q2 q3 q4
            have hz : (i : Int) < (g : Int) := by omega
            have hz0 : (0 : Int) ≤ (i : Int) := by omega
            gi_wp2
            refine hR.mono ?_
            rintro e W3 (⟨rfl, hJ3, hk3⟩ | ⟨rfl, hJx3⟩)
            · gi_wp2
              go_roundw
              case rel => exact ⟨i + 1, by omega, by simp, hJ3, hK.trans hk3⟩
              case measure => simp [intOf]; omega
            · gi_wp2
              refine bodyPost_ret (results_none rfl _ _ _) rfl ?_
              exact ⟨⟨_, rfl⟩, .inr ⟨_, (List.prefix_append_right_inj xs).2 (List.take_prefix _ _), hJx3⟩⟩
          · obtain rfl : i = g := by omega
            have hz : ¬ (i : Int) < (i : Int) := by omega
            have hyi : ys.take i = ys := List.take_of_length_le (by omega)
            rw [hyi] at hJ
            gi_wp2
            go_end0
            exact ⟨⟨_, rfl⟩, .inl hJ⟩

end Go.Proofs.YtgmgnlgolhjhmaaDoor
