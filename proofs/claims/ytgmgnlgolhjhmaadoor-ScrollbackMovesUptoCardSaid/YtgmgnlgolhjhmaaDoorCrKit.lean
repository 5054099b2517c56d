/-
  Slices of cells that calls return; Blank of cellrow; comparing cells; the document's own Same and Great of layer 7.
-/
import Derived.Test.YtgmgnlgolhjhmaaDoorCrSep
import Derived.Test.YtgmgnlgolhjhmaaDoorBaseD
import Derived.Deep.RegionHeld3
import Derived.Laws.StructEq
namespace Go.Proofs.YtgmgnlgolhjhmaaDoor
open Go.RowKit Go.Shelf Cr

/-- What a call that began in w leaves: a slice that reads as the cells l. -/
def GivesC (w w' : World) (A : Option Addr) (n c : Nat) (l : List C) : Prop := Rd w' A n l ∧ ((A = none → n = 0 ∧ c = 0) ∧ n ≤ c) ∧ Below w.heap.size w w'
theorem Mine.cap {w w' : World} {A : Option Addr} {n c : Nat} {l : List C} (h : Mine w w' (.slice A n c) l) : n ≤ c := by
  rcases h.2 with h' | ⟨b, off, e, h'⟩
  · rcases Own.slice ⟨h', h.1⟩ with ⟨e, _⟩ | ⟨g, cap, e, _, _, hc⟩
    · injection e with _ e2 e3
      omega
    · injection e with _ e2 e3
      omega
  · injection e with _ e2 e3
    omega
theorem Mine.gives {w w' : World} {A : Option Addr} {n c : Nat} {l : List C} (h : Mine w w' (.slice A n c) l) : GivesC w w' A n c l := ⟨h.rd.1, ⟨h.rd.2, h.cap⟩, h.1⟩
theorem GivesC.rebase {w0 w w' : World} {A : Option Addr} {n c : Nat} {l : List C} (h : GivesC w w' A n c l) (hb : Below w0.heap.size w0 w) : GivesC w0 w' A n c l := ⟨h.1, h.2.1, hb.trans (h.2.2.mono hb.size)⟩

theorem Mine.full {w0 w : World} {b off n : Nat} {l : List C} (h : Rd w (some ⟨b, off, none⟩) n l) (hb : Below w0.heap.size w0 w) (hg : w0.heap.size ≤ b) : Mine w0 w (.slice (some ⟨b, off, none⟩) n n) l := by
  have e := h.1
  subst e
  exact ⟨hb, .inr ⟨b, off, rfl, h, hg⟩⟩
/-- The end of a slice, cut off. -/
theorem Rd.tail {w : World} {g n j : Nat} {l : List C} (h : Rd w (some ⟨g, 0, none⟩) n l) (hj : j ≤ n) {R : Option Addr} (hR : (if n = j then some ⟨g, 0, none⟩ else some ⟨g, j * 5, none⟩) = R) : Rd w R (n - j) (l.drop j) := by
  by_cases e : n = j
  · subst e
    rw [Nat.sub_self, List.drop_of_length_le (by rw [h.1]; exact Nat.le_refl _)]
    exact Rd.nil _ _
  · rw [if_neg e] at hR
    subst hR
    have := h.part j n hj (Nat.le_refl _)
    rw [Nat.zero_add, List.take_of_length_le (by rw [List.length_drop, h.1]; exact Nat.le_refl _)] at this
    exact this
theorem Rd.head {w : World} {g n i : Nat} {l : List C} (h : Rd w (some ⟨g, 0, none⟩) n l) (hi : i ≤ n) : Rd w (some ⟨g, 0, none⟩) i (l.take i) := by
  have := h.part 0 i (Nat.zero_le _) hi
  simpa using this
theorem tail_some {n j g : Nat} {R : Option Addr} (hR : (if n = j then some ⟨g, 0, none⟩ else some ⟨g, j * 5, none⟩) = R) (e : R = none) (c : Nat) : n - j = 0 ∧ c = 0 := by
  split at hR <;> (subst hR; cases e)

end Go.Proofs.YtgmgnlgolhjhmaaDoor

namespace Go.Proofs.YtgmgnlgolhjhmaaDoor
open Go.RowKit Go.Shelf Cr

set_option maxHeartbeats 2000000 in
set_option maxRecDepth 100000 in
theorem blankRow_any (n f b g : Int) (w : World) :
    Calls Tryd.prog 56 #[.int .i64 n, .agg #[.int .i64 f, .int .i64 b, .int .i64 g]] w fun e w' => ∃ A m c, e = .returned (.slice A m c) ∧ GivesC w w' A m c (if 1 ≤ n ∧ n ≤ 132 then blanks n.toNat b else []) ∧ Fr w A := by
  have hb := (Below.refl w.heap.size w).alloc (Nat.le_refl _) (.cells #[.int .i64 f, .int .i64 b, .int .i64 g] 44)
  have CI := Lib.hid (fun W => isLength_any n W)
  by_cases h : 1 ≤ n ∧ n ≤ 132
  · rw [if_pos h]
    rw [decide_eq_true h] at CI
    obtain ⟨m, rfl⟩ : ∃ m : Nat, n = (m : Int) := ⟨n.toNat, by omega⟩
    have CB := Lib.hid (fun W => blanks_any m (by omega) b W)
    rw [Int.toNat_natCast]
    go_enter Tryd.func56, Tryd.ntmps56
    go_wp2_with fail
    refine (CI.out _).mono ?_
    rintro e w1 ⟨rfl, rfl⟩
    go_wp2_with fail
    refine (CB.out _).mono ?_
    rintro e w2 ⟨g', rfl, hO⟩
    have HO := Lib.hid (And.intro (hO.mine.gives.rebase hb) (hO.mine.fr.rebase hb))
    clear hO
    go_wp2
    go_ret
    exact ⟨_, _, _, rfl, HO.out⟩
  · rw [if_neg h]
    rw [decide_eq_false h] at CI
    go_enter Tryd.func56, Tryd.ntmps56
    go_wp2_with fail
    refine (CI.out _).mono ?_
    rintro e w1 ⟨rfl, rfl⟩
    go_wp2
    go_ret
    exact ⟨none, 0, 0, rfl, ⟨Rd.nil _ _, ⟨fun _ => ⟨rfl, rfl⟩, Nat.le_refl _⟩, hb⟩, Fr.none _⟩

end Go.Proofs.YtgmgnlgolhjhmaaDoor

namespace Go.Proofs.YtgmgnlgolhjhmaaDoor
open Go.RowKit Go.Shelf Cr

theorem Rd.addr {w : World} {A : Option Addr} {n : Nat} {l : List C} (h : Rd w A n l) (h0 : 0 < n) : ∃ b off, A = some ⟨b, off, none⟩ := by
  have hl : 0 < l.length := by rw [h.1]; exact h0
  obtain ⟨b, off, e, _⟩ := h.2 0 l[0] (List.getElem?_eq_getElem hl)
  exact ⟨b, off, e⟩
theorem gives_nil {w w' : World} (hb : Below w.heap.size w w') : GivesC w w' none 0 0 [] := ⟨Rd.nil _ _, ⟨fun _ => ⟨rfl, rfl⟩, Nat.le_refl _⟩, hb⟩

end Go.Proofs.YtgmgnlgolhjhmaaDoor

namespace Go.Proofs.YtgmgnlgolhjhmaaDoor
open Go.RowKit Go.Shelf Cr

theorem Own.cap {w0 w : World} {g n cap : Nat} {l : List C} (h : Own w0 w (.slice (some ⟨g, 0, none⟩) n cap) l) : n ≤ cap := h.mine.cap
/-- The middle of a slice. -/
theorem Rd.mid {w : World} {g n i j : Nat} {l : List C} (h : Rd w (some ⟨g, 0, none⟩) n l) (hij : i ≤ j) (hj : j ≤ n) {R : Option Addr} (hR : (if j = i then some ⟨g, 0, none⟩ else some ⟨g, i * 5, none⟩) = R) : Rd w R (j - i) ((l.drop i).take (j - i)) := by
  by_cases e : j = i
  · subst e
    rw [Nat.sub_self, List.take_zero]
    exact Rd.nil _ _
  · rw [if_neg e] at hR
    subst hR
    have := h.part i j hij hj
    rwa [Nat.zero_add] at this
theorem mid_some {j i g : Nat} {R : Option Addr} (hR : (if j = i then some ⟨g, 0, none⟩ else some ⟨g, i * 5, none⟩) = R) (e : R = none) (c : Nat) : j - i = 0 ∧ c = 0 := by
  split at hR <;> (subst hR; cases e)

end Go.Proofs.YtgmgnlgolhjhmaaDoor

namespace Go.Proofs.YtgmgnlgolhjhmaaDoor
open Go.RowKit Cr

theorem bytes_eq (a b : ByteArray) : (a.toList == b.toList) = decide (a = b) := by
  rw [ByteArray.toList_eq, ByteArray.toList_eq]
  by_cases h : a = b
  · subst h; simp
  · rw [decide_eq_false h]
    have h' : ¬ a.data = b.data := fun e => h (by cases a; cases b; cases e; rfl)
    simpa using h'
set_option maxRecDepth 100000 in
set_option maxHeartbeats 1000000 in
theorem equalIn_cell (t t' : ByteArray) (x x' f f' b b' g g' : Int) (w : World) : (Op.equalIn 10000 46 (.agg #[.string t, .int .i64 x, .int .i64 f, .int .i64 b, .int .i64 g]) (.agg #[.string t', .int .i64 x', .int .i64 f', .int .i64 b', .int .i64 g'])).run Tryd.prog w = .ok (decide ((⟨t, x, f, b, g⟩ : C) = ⟨t', x', f', b', g'⟩)) w := by
  have hb := bytes_eq t t'
  have e : decide ((⟨t, x, f, b, g⟩ : C) = ⟨t', x', f', b', g'⟩) = (decide (t = t') && (x == x' && (f == f' && (b == b' && g == g')))) := by
    by_cases h0 : t = t' <;> by_cases h1 : x = x' <;> by_cases h2 : f = f' <;> by_cases h3 : b = b' <;> by_cases h4 : g = g' <;> simp [h0, h1, h2, h3, h4]
  rw [e]
  have u0 := Tryd.underlying46
  have u1 := Tryd.underlying44
  have u2 := Tryd.underlying9
  have u3 := Tryd.underlying3
  have i0 := Tryd.isAgg9
  have i1 := Tryd.isAgg3
  have i2 := Tryd.isAgg44
  have z0 := Tryd.sizeOf9
  have z1 := Tryd.sizeOf3
  have z2 := Tryd.sizeOf44
  have hh : Tryd.prog.stoodInHeld 46 = false := by kernel_rfl
  have hh2 : Tryd.prog.stoodInHeld 44 = false := by kernel_rfl
  go_simp
  by_cases h0 : t = t' <;> by_cases h1 : x = x' <;> by_cases h2 : f = f' <;> by_cases h3 : b = b' <;> by_cases h4 : g = g' <;> simp [h0, h1, h2, h3, h4]
theorem neq_cell (t t' : ByteArray) (x x' f f' b b' g g' : Int) (w : World) : (binOp .neq 46 (.agg #[.string t, .int .i64 x, .int .i64 f, .int .i64 b, .int .i64 g]) (.agg #[.string t', .int .i64 x', .int .i64 f', .int .i64 b', .int .i64 g'])).run Tryd.prog w = .ok (.bool (!decide ((⟨t, x, f, b, g⟩ : C) = ⟨t', x', f', b', g'⟩))) w := by
  rw [run_neq_struct, equalIn_cell]
  rfl

end Go.Proofs.YtgmgnlgolhjhmaaDoor

namespace Go.Proofs.YtgmgnlgolhjhmaaDoor
open Go.RowKit Go.Shelf Cr

def great (l : List C) : Bool := decide (140 < l.length) || l.any (fun c => decide (40 < c.t.size))
theorem great_false {l : List C} (h : great l = false) : l.length ≤ 140 ∧ ∀ c ∈ l, c.t.size ≤ 40 := by
  unfold great at h
  rw [Bool.or_eq_false_iff] at h
  refine ⟨by have := of_decide_eq_false h.1; omega, fun c hc => ?_⟩
  have := List.any_eq_false.1 h.2 c hc
  simp at this
  omega

set_option maxHeartbeats 2000000 in
set_option maxRecDepth 100000 in
theorem great_any (A : Option Addr) (n c : Nat) (l : List C) (w : World) (hr : Rd w A n l) :
    Calls Tryd.prog 30 #[.slice A n c] w fun e w' => e = .returned (.bool (great l)) ∧ w = w' := by
  have hl : l.length = n := hr.1
  by_cases h140 : 140 < n
  · have hz : (140 : Int) < (n : Int) := by omega
    have e : great l = true := by unfold great; rw [hl, decide_eq_true h140]; rfl
    rw [e]
    go_enter Tryd.func30, Tryd.ntmps30
    go_wp2
    go_ret
    exact ⟨rfl, rfl⟩
  · have hz : ¬ (140 : Int) < (n : Int) := by omega
    have hg : great l = l.any (fun c => decide (40 < c.t.size)) := by unfold great; rw [hl, decide_eq_false h140]; rfl
    rw [hg]
    have HR := Lib.hid hr
    have HL := Lib.hid hl
    have hn : (n : Int) ≤ 140 := by omega
    clear hg hr hl
    go_enter Tryd.func30, Tryd.ntmps30
    go_wp2
    go_loopg [3] (n + 1) (fun gk v3 wr => ∃ k : Nat, gk + k = n + 1 ∧ k ≤ n ∧ v3 = .int .i64 (k : Int) ∧ w = wr ∧ Aside (∀ (j : Nat) x, j < k → l[j]? = some x → x.t.size ≤ 40))
    case atStart => exact ⟨0, by omega, Nat.zero_le _, rfl, rfl, fun j x hj => by omega⟩
    case round =>
      obtain ⟨k, hg, hkn, rfl, rfl, hA⟩ := hrel
      by_cases hlt : k < n
      · obtain ⟨g', rfl⟩ : ∃ g', gk = g' + 1 := ⟨gk - 1, by omega⟩
        have hz : (k : Int) < (n : Int) := by omega
        have hz0 : (0 : Int) ≤ (k : Int) := by omega
        have hkl : k < l.length := by rw [HL.out]; exact hlt
        obtain ⟨x, hx⟩ : ∃ x, l[k]? = some x := ⟨l[k], List.getElem?_eq_getElem hkl⟩
        obtain ⟨b, off, rfl, _, p0, _⟩ := HR.out.at k x hx
        have HX := Lib.hid hx
        clear hx
        by_cases h40 : 40 < x.t.size
        · have h40z : (40 : Int) < (x.t.size : Int) := by omega
          go_wp2
          go_ret
          refine ⟨ret_bool ?_, rfl⟩
          exact (List.any_eq_true.2 ⟨x, List.mem_of_getElem? HX.out, decide_eq_true h40⟩).symm
        · have h40z : ¬ (40 : Int) < (x.t.size : Int) := by omega
          go_wp2
          go_roundg g'
          case measure => omega
          case rel =>
            refine ⟨k + 1, by omega, by omega, by go_num, rfl, fun j y hj hy => ?_⟩
            by_cases e : j = k
            · subst e
              rw [HX.out] at hy
              injection hy with hy
              rw [← hy]; omega
            · exact hA.out j y (by omega) hy
      · have hz : ¬ (k : Int) < (n : Int) := by omega
        have hq : k = n := by omega
        subst hq
        go_wp2
        go_ret
        refine ⟨ret_bool ?_, rfl⟩
        symm
        rw [List.any_eq_false]
        intro x hx
        obtain ⟨j, hj⟩ := List.getElem?_of_mem hx
        have hjl : j < l.length := by
          rcases Nat.lt_or_ge j l.length with h | h
          · exact h
          · rw [List.getElem?_eq_none h] at hj; cases hj
        have := hA.out j x (by rw [← HL.out]; exact hjl) hj
        simp
        omega

set_option maxHeartbeats 2000000 in
set_option maxRecDepth 100000 in
theorem same_any (A1 A2 : Option Addr) (n1 n2 c1 c2 : Nat) (l m : List C) (w : World) (h1 : Rd w A1 n1 l) (h2 : Rd w A2 n2 m) (hn1 : n1 ≤ 1000) (hn2 : n2 ≤ 1000) :
    Calls Tryd.prog 18 #[.slice A1 n1 c1, .slice A2 n2 c2] w fun e w' => e = .returned (.bool (decide (l = m))) ∧ Below w.heap.size w w' := by
  have hl : l.length = n1 := h1.1
  have hm : m.length = n2 := h2.1
  by_cases hne : n1 = n2
  · subst hne
    have H1 := Lib.hid h1
    have H2 := Lib.hid h2
    have HL := Lib.hid hl
    have HM := Lib.hid hm
    have hnz : (n1 : Int) ≤ 1000 := by omega
    clear h1 h2 hl hm
    go_enter Tryd.func18, Tryd.ntmps18
    go_wp2
    go_loopg [5] (n1 + 1) (fun gk v5 wr => ∃ k : Nat, gk + k = n1 + 1 ∧ k ≤ n1 ∧ v5 = .int .i64 (k : Int) ∧ Aside (Below w.heap.size w wr ∧ ∀ j, j < k → l[j]? = m[j]?))
    case atStart => exact ⟨0, by omega, Nat.zero_le _, rfl, Below.refl _ _, fun j hj => by omega⟩
    case round =>
      obtain ⟨k, hg, hkn, rfl, hA⟩ := hrel
      by_cases hlt : k < n1
      · obtain ⟨gf, rfl⟩ : ∃ gf, gk = gf + 1 := ⟨gk - 1, by omega⟩
        have hz : (k : Int) < (n1 : Int) := by omega
        have hz0 : (0 : Int) ≤ (k : Int) := by omega
        obtain ⟨x, hx⟩ : ∃ x, l[k]? = some x := ⟨l[k]'(by rw [HL.out]; exact hlt), List.getElem?_eq_getElem _⟩
        obtain ⟨y, hy⟩ : ∃ y, m[k]? = some y := ⟨m[k]'(by rw [HM.out]; exact hlt), List.getElem?_eq_getElem _⟩
        obtain ⟨b, off, rfl, _, p0, p1, p2, p3, p4⟩ := (H1.out.below hA.out.1).at k x hx
        obtain ⟨b', off', rfl, _, q0, q1, q2, q3, q4⟩ := (H2.out.below hA.out.1).at k y hy
        obtain ⟨t, x1, f, bb, g⟩ := x
        obtain ⟨t', x1', f', bb', g'⟩ := y
        simp only at p0 p1 p2 p3 p4 q0 q1 q2 q3 q4
        obtain ⟨q, hq⟩ : ∃ q, decide ((⟨t, x1, f, bb, g⟩ : C) = ⟨t', x1', f', bb', g'⟩) = q := ⟨_, rfl⟩
        have hneq := fun W => neq_cell t t' x1 x1' f f' bb bb' g g' W
        rw [hq] at hneq
        have HQ := Lib.hid hq
        have HX := Lib.hid hx
        have HY := Lib.hid hy
        have HB := Lib.hid hA.out.1
        clear hq hx hy
        cases q
        · have hd : (⟨t, x1, f, bb, g⟩ : C) ≠ ⟨t', x1', f', bb', g'⟩ := of_decide_eq_false HQ.out
          have HD := Lib.hid hd
          clear hd
          go_wp2
          go_region
          go_wp2
          go_ret
          refine ⟨ret_bool (decide_eq_false fun e => ?_).symm, HB.out.drew⟩
          subst e
          exact HD.out (Option.some.inj (HX.out.symm.trans HY.out))
        · have hd : (⟨t, x1, f, bb, g⟩ : C) = ⟨t', x1', f', bb', g'⟩ := of_decide_eq_true HQ.out
          have HD := Lib.hid hd
          clear hd
          go_wp2
          go_region
          go_wp2
          go_roundg gf
          case measure => omega
          case rel =>
            refine ⟨k + 1, by omega, by omega, by go_num, HB.out.drew, fun j hj => ?_⟩
            by_cases e : j = k
            · subst e
              rw [HX.out, HY.out, HD.out]
            · exact hA.out.2 j (by omega)
      · have hz : ¬ (k : Int) < (n1 : Int) := by omega
        have hq : k = n1 := by omega
        subst hq
        go_wp2
        go_ret
        refine ⟨ret_bool (decide_eq_true ?_).symm, hA.out.1⟩
        apply List.ext_getElem?
        intro j
        rcases Nat.lt_or_ge j k with h | h
        · exact hA.out.2 j h
        · rw [List.getElem?_eq_none (by rw [HL.out]; exact h), List.getElem?_eq_none (by rw [HM.out]; exact h)]
  · have hb : (((n1 : Nat) : Int) != ((n2 : Nat) : Int)) = true := by simp; omega
    have hd : decide (l = m) = false := decide_eq_false (fun e => hne (by rw [← hl, ← hm, e]))
    rw [hd]
    go_enter Tryd.func18, Tryd.ntmps18
    go_wp2
    go_ret
    exact ⟨rfl, Below.refl _ _⟩

end Go.Proofs.YtgmgnlgolhjhmaaDoor
