/-
  The document's own blank, Text, Blank, Check, copied and separate of layer 7.
-/
import Derived.Test.YtcljmmadimldlaaDoorCrFitsWalk
import Derived.Test.YtcljmmadimldlaaDoorRefAll
namespace Go.Proofs.YtcljmmadimldlaaDoor
open Go.RowKit Go.Shelf Cr

set_option maxRecDepth 100000 in
theorem refblank_exact (b : Int) (w : World) : Calls Tryd.prog 40 #[.int .i64 b] w fun e w' => e = .returned (.agg #[.string ⟨#[32]⟩, .int .i64 1, .int .i64 (-1), .int .i64 b, .int .i64 0]) ∧ w.alloc (bo b) = w' := by
  go_enter Tryd.func40, Tryd.ntmps40
  go_wp2
  refine bodyPost_ret (results_cell_row rfl _ _ _ 48 _ (0, 0) _ rfl (heap_alloc_new w _) Tryd.underlying48 rfl (by kernel_rfl)) rfl ⟨rfl, rfl⟩

theorem refblank_any (b : Int) (w : World) : Calls Tryd.prog 40 #[.int .i64 b] w fun e w' => e = .returned (.agg #[.string ⟨#[32]⟩, .int .i64 1, .int .i64 (-1), .int .i64 b, .int .i64 0]) ∧ Below w.heap.size w w' :=
  (refblank_exact b w).mono fun e w' h => ⟨h.1, by rw [← h.2]; exact (Below.refl _ _).alloc (Nat.le_refl _) _⟩

set_option maxHeartbeats 2000000 in
set_option maxRecDepth 100000 in
theorem reftext_any (A : Option Addr) (n c : Nat) (l : List C) (hn : n ≤ 1000) (ht : ∀ x ∈ l, x.t.size ≤ 300) (w : World) (hr : Rd w A n l) :
    Calls Tryd.prog 17 #[.slice A n c] w fun e w' => e = .returned (.string ⟨(text l).toArray⟩) ∧ w = w' := by
  have hl : l.length = n := hr.1
  have HR := Lib.hid hr
  have HT := Lib.hid ht
  have HL := Lib.hid hl
  have hnz : (n : Int) ≤ 1000 := by omega
  clear hr ht hl
  go_enter Tryd.func17, Tryd.ntmps17
  go_wp2
  go_loopg [3, 4] (n + 1) (fun gk v3 v4 wr => ∃ (k : Nat) (s : ByteArray), gk + k = n + 1 ∧ k ≤ n ∧ v4 = .int .i64 (k : Int) ∧ v3 = .string s ∧ w = wr ∧ Aside (s.data.toList = text (l.take k)))
  case atStart => exact ⟨0, ⟨#[]⟩, by omega, Nat.zero_le _, rfl, rfl, rfl, rfl⟩
  case round =>
    obtain ⟨k, s, hg, hkn, rfl, rfl, rfl, hA⟩ := hrel
    by_cases hlt : k < n
    · obtain ⟨g', rfl⟩ : ∃ g', gk = g' + 1 := ⟨gk - 1, by omega⟩
      have hz : (k : Int) < (n : Int) := by omega
      have hz0 : (0 : Int) ≤ (k : Int) := by omega
      have hkl : k < l.length := by rw [HL.out]; exact hlt
      obtain ⟨x, hx⟩ : ∃ x, l[k]? = some x := ⟨l[k], List.getElem?_eq_getElem hkl⟩
      obtain ⟨b, off, rfl, _, p0, _⟩ := HR.out.at k x hx
      have hxs := HT.out x (List.mem_of_getElem? hx)
      have hle : (text (l.take k)).length ≤ 300 * (l.take k).length := text_len _ (fun y hy => HT.out y (List.mem_of_mem_take hy))
      rw [List.length_take, ← hA.out, ← Lib.size_eq] at hle
      have hcat : (s.size : Int) + (x.t.size : Int) ≤ 1000000 := by omega
      have HX := Lib.hid (text_take l k x hx)
      clear hx hle
      go_wp2
      go_roundg g'
      case measure => omega
      case rel =>
        refine ⟨k + 1, s ++ x.t, by omega, by omega, by go_num, rfl, rfl, ?_⟩
        show (s ++ x.t).data.toList = text (l.take (k + 1))
        rw [HX.out, ← hA.out, ByteArray.data_append, Array.toList_append]
    · have hz : ¬ (k : Int) < (n : Int) := by omega
      have hq : k = n := by omega
      subst hq
      have e : s = ⟨(text l).toArray⟩ := Cl.same_bytes (by
        have := hA.out
        rw [← HL.out, List.take_length] at this
        rw [this])
      have HE := Lib.hid e
      clear e hA
      go_wp2
      go_ret
      exact ⟨by rw [HE.out]; rfl, rfl⟩

theorem blanks_succ (k : Nat) (b : Int) : blanks k b ++ [Cr.blank b] = blanks (k + 1) b := by
  unfold blanks
  rw [List.replicate_succ']
set_option maxHeartbeats 2000000 in
set_option maxRecDepth 100000 in
theorem refBlank_any (n f b g : Int) (w : World) :
    Calls Tryd.prog 20 #[.int .i64 n, .agg #[.int .i64 f, .int .i64 b, .int .i64 g]] w fun e w' => ∃ A m c, e = .returned (.slice A m c) ∧ GivesC w w' A m c (if 1 ≤ n ∧ n ≤ 132 then blanks n.toNat b else []) := by
  have hb := (Below.refl w.heap.size w).alloc (Nat.le_refl _) (.cells #[.int .i64 f, .int .i64 b, .int .i64 g] 24)
  by_cases h : 1 ≤ n ∧ n ≤ 132
  · rw [if_pos h]
    obtain ⟨m, rfl⟩ : ∃ m : Nat, n = (m : Int) := ⟨n.toNat, by omega⟩
    rw [Int.toNat_natCast]
    have h1 : ¬ (m : Int) < 1 := by omega
    have h2 : ¬ (132 : Int) < (m : Int) := by omega
    have hm : (m : Int) ≤ 132 := by omega
    have K0 : Hid ((w.alloc (.cells #[.int .i64 f, .int .i64 b, .int .i64 g] 24)).heap[w.heap.size]? = some (.cells #[.int .i64 f, .int .i64 b, .int .i64 g] 24)) := Lib.hid (heap_alloc_new w _)
    have HB := Lib.hid hb
    have M0 : Hid (Mine (w.alloc (.cells #[.int .i64 f, .int .i64 b, .int .i64 g] 24)) (w.alloc (.cells #[.int .i64 f, .int .i64 b, .int .i64 g] 24)) (.slice none 0 0) (blanks 0 b)) := Lib.hid (Own.start _).mine
    clear hb h
    go_enter Tryd.func20, Tryd.ntmps20
    go_wp2
    generalize w.alloc (.cells #[.int .i64 f, .int .i64 b, .int .i64 g] 24) = W at K0 HB M0 ⊢
    go_loopg [5, 6] (m + 1) (fun gk v5 v6 wr => ∃ k : Nat, gk + k = m + 1 ∧ k ≤ m ∧ v6 = .int .i64 (k : Int) ∧ ∃ A' n' c', v5 = .slice A' n' c' ∧ Aside (Mine W wr (.slice A' n' c') (blanks k b)))
    case atStart => exact ⟨0, by omega, Nat.zero_le _, rfl, none, 0, 0, rfl, M0.out⟩
    case round =>
      obtain ⟨k, hg, hkn, rfl, A', n', c', rfl, hA⟩ := hrel
      by_cases hlt : k < m
      · obtain ⟨g', rfl⟩ : ∃ g', gk = g' + 1 := ⟨gk - 1, by omega⟩
        have hz : (k : Int) < (m : Int) := by omega
        have hz0 : (0 : Int) ≤ (k : Int) := by omega
        have p1 := cell_of_row wr _ 1 _ _ _ ((hA.out.1.block _ (Array.getElem?_eq_some_iff.1 K0.out).1).trans K0.out)
        have CB := Lib.hid (refblank_any b wr)
        have HA := Lib.hid hA.out
        have hl1 : (blanks k b).length + ([Cr.blank b] : List C).length ≤ 100000 := by rw [blanks_length]; simp; omega
        have HBS := Lib.hid (blanks_succ k b)
        clear hA
        go_wp2_with fail
        refine CB.out.mono ?_
        rintro e w1 ⟨rfl, d1⟩
        have hO := Own.laid w1 [Cr.blank b] #[.string ⟨#[32]⟩, .int .i64 1, .int .i64 (-1), .int .i64 b, .int .i64 0] 1 rfl (by decide) rfl
        have HO := Lib.hid hO.rd
        have HM := Lib.hid ((HA.out.below d1).below hO.2)
        clear CB hO d1 p1
        go_wp2_with (at_builtin; refine wpList_joinC rfl (.tmp 18) (.tmp 22) rfl W _ _ (blanks k b) [Cr.blank b] _ 1 1 rfl rfl HM.out HO.out.1 HO.out.2 hl1 ?_; intro A4 n4 c4 w4 hO4; have HO4 := Lib.hid hO4.out; clear hO4)
        go_roundg g'
        case measure => omega
        case rel => exact ⟨k + 1, by omega, by omega, by go_num, _, _, _, rfl, by rw [← HBS.out]; exact HO4.out⟩
      · have hz : ¬ (k : Int) < (m : Int) := by omega
        have hq : k = m := by omega
        subst hq
        go_wp2
        go_ret
        exact ⟨_, _, _, rfl, hA.out.gives.rebase HB.out⟩
  · rw [if_neg h]
    have hor : n < 1 ∨ (¬ n < 1 ∧ 132 < n) := by omega
    rcases hor with h1 | ⟨h1, h2⟩
    · go_enter Tryd.func20, Tryd.ntmps20
      go_wp2
      go_ret
      exact ⟨none, 0, 0, rfl, gives_nil hb⟩
    · go_enter Tryd.func20, Tryd.ntmps20
      go_wp2
      go_ret
      exact ⟨none, 0, 0, rfl, gives_nil hb⟩

end Go.Proofs.YtcljmmadimldlaaDoor

namespace Go.Proofs.YtcljmmadimldlaaDoor
open Go.RowKit Go.Shelf Cr

theorem scan_stop {l : List C} {k : Nat} {x : C} (hA : scan l = scan (l.drop k)) (hx : l[k]? = some x) {q : Nat} (hq : front x (l.drop (k + 1)) = q) (h0 : q ≠ 0) : scan l = q := by
  rw [hA, drop_cons hx, scan_step, hq, if_pos h0]
theorem scan_on {l : List C} {k j : Nat} {x : C} (hA : scan l = scan (l.drop k)) (hx : l[k]? = some x) (hq : front x (l.drop (k + 1)) = 0) (hj : x.w = (j : Int)) (h1 : 1 ≤ j) : scan l = scan (l.drop (k + j)) := by
  rw [hA, drop_cons hx, scan_step, hq, if_neg (by simp), List.drop_drop, hj]
  congr 2
  omega
theorem head_drop (l : List C) (k : Nat) : (l.drop k).head? = l[k]? := by rw [List.head?_drop]
theorem front_w {x : C} {r : List C} (h : x.w ≠ 1 ∧ x.w ≠ 2) : front x r = 12 := by unfold front; rw [if_pos h]
theorem front_c {x : C} {r : List C} (h : x.w = 1 ∨ x.w = 2) (hc : chk x.t ≠ 0) : front x r = 3 := by unfold front; rw [if_neg (by omega), if_pos hc]
theorem front_d {x : C} {r : List C} (h : x.w = 1 ∨ x.w = 2) (hc : chk x.t = 0) (hd : wd x.t ≠ x.w) : front x r = 12 := by unfold front; rw [if_neg (by omega), if_neg (by omega), if_pos hd]
theorem front_1 {x : C} {r : List C} (h : x.w = 1) (hc : chk x.t = 0) (hd : wd x.t = x.w) : front x r = 0 := by unfold front; rw [if_neg (by omega), if_neg (by omega), if_neg (by omega), if_neg (by omega)]
theorem front_2 {x : C} {r : List C} (h : x.w = 2) (hc : chk x.t = 0) (hd : wd x.t = x.w) (hh : r.head? ≠ some (half x)) : front x r = 12 := by unfold front; rw [if_neg (by omega), if_neg (by omega), if_neg (by omega), if_pos ⟨h, hh⟩]
theorem front_3 {x : C} {r : List C} (h : x.w = 2) (hc : chk x.t = 0) (hd : wd x.t = x.w) (hh : r.head? = some (half x)) : front x r = 0 := by unfold front; rw [if_neg (by omega), if_neg (by omega), if_neg (by omega), if_neg (fun e => e.2 hh)]

set_option maxHeartbeats 4000000 in
set_option maxRecDepth 100000 in
theorem refCheckRow_any (A : Option Addr) (n c : Nat) (l : List C) (w : World) (hr : Rd w A n l) (_hmax : n ≤ 9223372036854775807) (ht : ∀ x ∈ l, x.t.size ≤ 300) :
    Calls Tryd.prog 15 #[.slice A n c] w fun e w' => e = .returned (.int .i64 (check l : Nat)) ∧ Below w.heap.size w w' := by
  have hl : l.length = n := hr.1
  by_cases h : 1 ≤ n ∧ n ≤ 132
  · have hck : check l = scan l := by unfold check; rw [if_neg (by omega)]
    rw [hck]
    have HR := Lib.hid hr
    have HX := Lib.hid ht
    have HL := Lib.hid hl
    have hn0 : ¬ (n : Int) < 1 := by omega
    have hn2 : ¬ (132 : Int) < (n : Int) := by omega
    have hn1 : (n : Int) ≤ 132 := by omega
    obtain ⟨sc, hsc⟩ : ∃ sc, scan l = sc := ⟨_, rfl⟩
    rw [hsc]
    have HSC := Lib.hid hsc
    clear hck hr ht hl hsc
    go_enter Tryd.func15, Tryd.ntmps15
    go_wp2
    go_loopg [3, 4] (n + 1) (fun gk v3 _ wr => ∃ k : Nat, n < gk + k ∧ k ≤ n ∧ v3 = .int .i64 (k : Int) ∧ Aside (Below w.heap.size w wr ∧ scan l = scan (l.drop k)))
    case atStart => exact ⟨0, by omega, Nat.zero_le _, rfl, Below.refl _ _, rfl⟩
    case round =>
      obtain ⟨k, hg, hkn, rfl, hA⟩ := hrel
      by_cases hlt : k < n
      · obtain ⟨gf, rfl⟩ : ∃ gf, gk = gf + 1 := ⟨gk - 1, by omega⟩
        have hz : (k : Int) < (n : Int) := by omega
        have hz0 : (0 : Int) ≤ (k : Int) := by omega
        have hkl : k < l.length := by rw [HL.out]; exact hlt
        obtain ⟨x, hx⟩ : ∃ x, l[k]? = some x := ⟨l[k], List.getElem?_eq_getElem hkl⟩
        obtain ⟨b, off, rfl, _, p0, p1, p2, p3, p4⟩ := (HR.out.below hA.out.1).at k x hx
        have HAT := Lib.hid (fun W' (h : Below w.heap.size w W') => (HR.out.below h).at k x hx)
        have hxs := HX.out x (List.mem_of_getElem? hx)
        have STOP := Lib.hid (fun (q : Nat) (hq : front x (l.drop (k + 1)) = q) (h0 : q ≠ 0) => HSC.out.symm.trans (scan_stop hA.out.2 hx hq h0))
        have ON := Lib.hid (fun (j : Nat) (hq : front x (l.drop (k + 1)) = 0) (hj : x.w = (j : Int)) (h1 : 1 ≤ j) => scan_on hA.out.2 hx hq hj h1)
        have CC := Lib.hid (fun W' => refcheck_any x.t W' hxs)
        have CW := Lib.hid (fun W' => refwidth_cl x.t W' hxs)
        have HB := Lib.hid hA.out.1
        obtain ⟨e0, he0⟩ : ∃ e0 : Nat, chk x.t = e0 := ⟨_, rfl⟩
        rw [show Cl.chk x.t.data.toList = e0 from he0] at CC
        obtain ⟨y, hy⟩ : ∃ y, wd x.t = y := ⟨_, rfl⟩
        rw [show Cl.widthC x.t.data.toList = y from hy] at CW
        clear hA hx
        by_cases hw : x.w ≠ 1 ∧ x.w ≠ 2
        · have x1 : (x.w != 1) = true := by simpa using hw.1
          have x2 : (x.w != 2) = true := by simpa using hw.2
          have HE := Lib.hid (STOP.out 12 (front_w hw) (by decide))
          go_wp2
          go_ret
          exact ⟨ret_int (by rw [HE.out]; rfl), HB.out⟩
        · have hw12 : x.w = 1 ∨ x.w = 2 := by omega
          by_cases hc : e0 ≠ 0
          · have cb : (((e0 : Nat) : Int) != 0) = true := nat_ne hc
            have HE := Lib.hid (STOP.out 3 (front_c hw12 (by omega)) (by decide))
            clear he0 hy
            rcases hw12 with hw1 | hw1
            all_goals
              rw [hw1] at p1
              go_wp2_with fail
              refine (CC.out _).mono ?_
              rintro e w1 ⟨rfl, b1⟩
              have B1 := Lib.hid (HB.out.trans (b1.mono HB.out.size))
              clear b1
              go_wp2
              go_ret
              exact ⟨ret_int (by rw [HE.out]; rfl), B1.out⟩
          · have hc0 : e0 = 0 := by omega
            subst hc0
            by_cases hd : y ≠ x.w
            · have db : (y != x.w) = true := by simpa using hd
              have HE := Lib.hid (STOP.out 12 (front_d hw12 he0 (by rw [hy]; exact hd)) (by decide))
              clear he0 hy
              have hw12b : (x.w != 1 && x.w != 2) = false := by rcases hw12 with h | h <;> rw [h] <;> rfl
              rcases hw12 with hw1 | hw1
              all_goals
                rw [hw1] at p1 db
                go_wp2_with fail
                refine (CC.out _).mono ?_
                rintro e w1 ⟨rfl, b1⟩
                have B1 := Lib.hid (HB.out.trans (b1.mono HB.out.size))
                obtain ⟨b', off', e1, _, r0, _⟩ := HAT.out w1 B1.out
                injection e1 with e1
                injection e1 with e1 e2
                subst e1 e2
                clear b1
                go_wp2_with fail
                refine (CW.out _).mono ?_
                rintro e w2 ⟨rfl, b2⟩
                have B2 := Lib.hid (B1.out.trans (b2.mono B1.out.size))
                clear b2
                go_wp2
                go_ret
                exact ⟨ret_int (by rw [HE.out]; rfl), B2.out⟩
            · have hyx : y = x.w := by omega
              rcases hw12 with hw1 | hw1
              · have HE := Lib.hid (ON.out 1 (front_1 hw1 he0 (by rw [hy]; exact hyx)) hw1 (Nat.le_refl _))
                rw [hw1] at p1 hyx
                subst hyx
                clear he0 hy
                go_wp2_with fail
                refine (CC.out _).mono ?_
                rintro e w1 ⟨rfl, b1⟩
                have B1 := Lib.hid (HB.out.trans (b1.mono HB.out.size))
                obtain ⟨b', off', e1, _, r0, _⟩ := HAT.out w1 B1.out
                injection e1 with e1
                injection e1 with e1 e2
                subst e1 e2
                clear b1
                go_wp2_with fail
                refine (CW.out _).mono ?_
                rintro e w2 ⟨rfl, b2⟩
                have B2 := Lib.hid (B1.out.trans (b2.mono B1.out.size))
                clear b2
                go_wp2
                go_roundg gf
                case measure => omega
                case rel => exact ⟨k + 1, by omega, by omega, by go_num, B2.out, HE.out⟩
              · rw [hw1] at p1
                have hdn := HL.out
                by_cases hend : k + 1 = n
                · have hnone : l[k + 1]? = none := List.getElem?_eq_none (by omega)
                  have HE := Lib.hid (STOP.out 12 (front_2 hw1 he0 (by rw [hy]; exact hyx) (by rw [head_drop, hnone]; simp)) (by decide))
                  have hendb : ((k : Int) + 1 == (n : Int)) = true := beq_iff_eq.2 (by omega)
                  rw [hw1] at hyx
                  subst hyx
                  clear he0 hy hend hnone
                  go_wp2_with fail
                  refine (CC.out _).mono ?_
                  rintro e w1 ⟨rfl, b1⟩
                  have B1 := Lib.hid (HB.out.trans (b1.mono HB.out.size))
                  obtain ⟨b', off', e1, _, r0, _⟩ := HAT.out w1 B1.out
                  injection e1 with e1
                  injection e1 with e1 e2
                  subst e1 e2
                  clear b1
                  go_wp2_with fail
                  refine (CW.out _).mono ?_
                  rintro e w2 ⟨rfl, b2⟩
                  have B2 := Lib.hid (B1.out.trans (b2.mono B1.out.size))
                  clear b2
                  go_wp2
                  go_region
                  go_wp2
                  go_ret
                  exact ⟨ret_int (by rw [HE.out]; rfl), B2.out.drew⟩
                · have hk1l : k + 1 < l.length := by omega
                  obtain ⟨d, hd1⟩ : ∃ d, l[k + 1]? = some d := ⟨l[k + 1], List.getElem?_eq_getElem hk1l⟩
                  have HAD := Lib.hid (fun W' (h : Below w.heap.size w W') => (HR.out.below h).at (k + 1) d hd1)
                  have hendb : ((k : Int) + 1 == (n : Int)) = false := beq_eq_false_iff_ne.2 (by omega)
                  obtain ⟨k1, hk1⟩ : ∃ k1, k + 1 = k1 := ⟨_, rfl⟩
                  rw [hk1] at HAD
                  have hk1z : (k : Int) + 1 = (k1 : Int) := by omega
                  have hk1n : (k1 : Int) < (n : Int) := by omega
                  have hk10 : (0 : Int) ≤ (k1 : Int) := by omega
                  have hwk : IntKind.i64.wrap (k1 : Int) = (k1 : Int) := by rw [IntKind.wrap_i64]; omega
                  have hendb2 : ((k1 : Int) == (n : Int)) = false := beq_eq_false_iff_ne.2 (by omega)
                  obtain ⟨q, hq⟩ : ∃ q, decide (d = half x) = q := ⟨_, rfl⟩
                  have hneq := fun W => neq_cell d.t ⟨#[]⟩ d.w 0 d.f x.f d.b x.b d.g x.g W
                  have hdec : decide ((⟨d.t, d.w, d.f, d.b, d.g⟩ : C) = ⟨⟨#[]⟩, 0, x.f, x.b, x.g⟩) = q := hq
                  rw [hdec] at hneq
                  have HQ := Lib.hid hq
                  have HS := Lib.hid (fun (h : d ≠ half x) => STOP.out 12 (front_2 hw1 he0 (by rw [hy]; exact hyx) (by rw [head_drop, hd1]; exact fun e => h (Option.some.inj e))) (by decide))
                  have HN := Lib.hid (fun (h : d = half x) => ON.out 2 (front_3 hw1 he0 (by rw [hy]; exact hyx) (by rw [head_drop, hd1, h])) hw1 (by decide))
                  have HK1 := Lib.hid hk1
                  rw [hw1] at hyx
                  subst hyx
                  clear he0 hy hd1 hq hdec hk1
                  go_wp2_with fail
                  refine (CC.out _).mono ?_
                  rintro e w1 ⟨rfl, b1⟩
                  have B1 := Lib.hid (HB.out.trans (b1.mono HB.out.size))
                  obtain ⟨b', off', e1, _, r0, _⟩ := HAT.out w1 B1.out
                  injection e1 with e1
                  injection e1 with e1 e2
                  subst e1 e2
                  clear b1 p0 p1 p2 p3 p4
                  go_wp2_with fail
                  refine (CW.out _).mono ?_
                  rintro e w2 ⟨rfl, b2⟩
                  have B2 := Lib.hid (B1.out.trans (b2.mono B1.out.size))
                  obtain ⟨b', off', e1, _, _, _, s2, s3, s4⟩ := HAT.out w2 B2.out
                  injection e1 with e1
                  injection e1 with e1 e2
                  subst e1 e2
                  obtain ⟨b', off', e1, _, u0, u1, u2, u3, u4⟩ := HAD.out w2 B2.out
                  injection e1 with e1
                  injection e1 with e1 e2
                  subst e1 e2
                  clear b2 r0 HAT HAD CC CW
                  go_wp2
                  go_region
                  clear u0 u1 u2 u3 u4 s2 s3 s4 hneq
                  cases q
                  · have HE := Lib.hid (HS.out (of_decide_eq_false HQ.out))
                    go_wp2
                    go_ret
                    exact ⟨ret_int (by rw [HE.out]; rfl), B2.out.drew⟩
                  · have HE := Lib.hid (HN.out (of_decide_eq_true HQ.out))
                    go_wp2
                    go_roundg gf
                    case measure => omega
                    case rel => exact ⟨k + 2, by omega, by have := HK1.out; omega, by have := HK1.out; go_num, B2.out.drew, HE.out⟩
      · have hz : ¬ (k : Int) < (n : Int) := by omega
        have hq : k = n := by omega
        subst hq
        have e0 : sc = 0 := by
          rw [← HSC.out, hA.out.2, List.drop_of_length_le (by rw [HL.out]; exact Nat.le_refl _)]
          rfl
        have HE := Lib.hid e0
        clear e0
        go_wp2
        go_ret
        exact ⟨ret_int (by rw [HE.out]; rfl), hA.out.1⟩
  · have hck : check l = 5 := by unfold check; rw [if_pos (by omega)]
    rw [hck]
    have hor : (n : Int) < 1 ∨ (¬ (n : Int) < 1 ∧ (132 : Int) < (n : Int)) := by omega
    rcases hor with h1 | ⟨h1, h2⟩
    · go_enter Tryd.func15, Tryd.ntmps15
      go_wp2
      go_ret
      exact ⟨rfl, Below.refl _ _⟩
    · go_enter Tryd.func15, Tryd.ntmps15
      go_wp2
      go_ret
      exact ⟨rfl, Below.refl _ _⟩

end Go.Proofs.YtcljmmadimldlaaDoor

namespace Go.Proofs.YtcljmmadimldlaaDoor
open Go.RowKit Go.Shelf Cr

set_option maxHeartbeats 1000000 in
set_option maxRecDepth 100000 in
theorem copied_any (b off n c : Nat) (l : List C) (hn : n ≤ 1000) (w : World) (hr : Rd w (some ⟨b, off, none⟩) n l) :
    Calls Tryd.prog 45 #[.slice (some ⟨b, off, none⟩) n c] w fun e w' => ∃ g cap, e = .returned (.slice (some ⟨g, 0, none⟩) n cap) ∧ Own w w' (.slice (some ⟨g, 0, none⟩) n cap) l := by
  have hl : l.length = n := hr.1
  subst hl
  have HO := Lib.hid (Own.empty w)
  have HR := Lib.hid (hr.alloc (.cells #[] 48))
  have hlen : ([] : List C).length + l.length ≤ 100000 := by simp; omega
  have hne : Value.slice (some ⟨w.heap.size, 0, none⟩) 0 0 ≠ .slice none 0 0 := by intro e; cases e
  clear hr
  go_enter Tryd.func45, Tryd.ntmps45
  go_wp2_with (at_builtin; refine wpList_joinO rfl (.tmp 3) (.tmp 4) rfl w _ _ [] l b off l.length c rfl rfl HO.out HR.out hlen hne ?_; intro g c' w4 hout4; rw [List.nil_append, List.length_nil, Nat.zero_add] at hout4)
  go_ret
  exact ⟨_, _, by simp, hout4.out⟩

set_option maxHeartbeats 2000000 in
set_option maxRecDepth 100000 in
theorem refsep_any (w0 : World) (g n cap : Nat) (l : List C) (hP : Pr l) (k : Nat) (hk : k ≤ n) (hn : n ≤ 1000) (w : World) (hO : Own w0 w (.slice (some ⟨g, 0, none⟩) n cap) l) :
    Calls Tryd.prog 46 #[.slice (some ⟨g, 0, none⟩) n cap, .int .i64 (k : Int)] w fun e w' => e = .returned (.tuple #[]) ∧ Own w0 w' (.slice (some ⟨g, 0, none⟩) n cap) (sep l k) := by
  have hl : l.length = n := hO.rd.1.1
  have HO := Lib.hid hO
  have hnz : (n : Int) ≤ 1000 := by omega
  by_cases hkn : k < n
  · obtain ⟨x, hx⟩ : ∃ x, l[k]? = some x := ⟨l[k]'(by omega), List.getElem?_eq_getElem _⟩
    by_cases hw : x.w = 0
    · obtain ⟨j, y, rfl, hy⟩ := zero_pred hP hx hw
      obtain ⟨⟨p0, p1, p2, p3, p4⟩, hf⟩ := hO.here (j + 1) x hx
      obtain ⟨⟨r0, r1, r2, r3, r4⟩, _⟩ := hO.here j y hy
      have hs := sep_two_set hy hx hw
      rw [hs]
      obtain ⟨k, hk1⟩ : ∃ k, j + 1 = k := ⟨_, rfl⟩
      have hjl : j < l.length := by omega
      have hkl : k < (l.set j (Cr.blank y.b)).length := by rw [List.length_set]; omega
      have hx' : (l.set j (Cr.blank y.b))[k]? = some x := by rw [List.getElem?_set_ne (by omega), ← hk1]; exact hx
      rw [hk1] at p0 p1 p2 p3 p4 hkn ⊢
      rw [hw] at p1
      have hwr : IntKind.i64.wrap ((k : Int) - 1) = (j : Int) := by rw [IntKind.wrap_i64]; omega
      have hsub : (k : Int) - 1 = (j : Int) := by omega
      have hj0 : (0 : Int) ≤ (j : Int) := by omega
      have hj1 : (j : Int) < (n : Int) := by omega
      have hk0 : (0 : Int) < (k : Int) := by omega
      have hkz : (k : Int) < (n : Int) := by omega
      have hk00 : (0 : Int) ≤ (k : Int) := by omega
      have CB := Lib.hid (fun b W => refblank_any b W)
      have HX := Lib.hid hx'
      have HJL := Lib.hid hjl
      have HKL := Lib.hid hkl
      have HY := Lib.hid hy
      clear hO hx hy hs hx' hk hP hjl hkl hw hk1 hl
      go_enter Tryd.func46, Tryd.ntmps46
      go_wp2_with fail
      refine (CB.out y.b w).mono ?_
      rintro e w1 ⟨rfl, b1⟩
      have O1 := Lib.hid (HO.out.below b1)
      obtain ⟨⟨s0, s1, s2, s3, s4⟩, sf⟩ := O1.out.here j y HY.out
      have O2 := Lib.hid (O1.out.put j (Cr.blank y.b) HJL.out)
      obtain ⟨⟨t0, t1, t2, t3, t4⟩, tf⟩ := O2.out.here k x HX.out
      clear b1 p0 p1 p2 p3 p4 r0 r1 r2 r3 r4 hf
      simp only [Cr.blank, sp] at t0 t1 t2 t3 t4
      go_wp2_with fail
      refine (CB.out x.b _).mono ?_
      rintro e w3 ⟨rfl, b3⟩
      have O3 := Lib.hid (O2.out.below b3)
      obtain ⟨⟨u0, u1, u2, u3, u4⟩, uf⟩ := O3.out.here k x HX.out
      have O4 := Lib.hid (O3.out.put k (Cr.blank x.b) HKL.out)
      clear b3 s0 s1 s2 s3 s4 sf t0 t1 t2 t3 t4 tf
      go_wp2
      first | go_end0 | refine bodyPost_ret (results_none rfl _ _ _) rfl ?_
      exact ⟨rfl, O4.out⟩
    · rw [sep_keep hx hw]
      have hwb : (x.w == 0) = false := beq_eq_false_iff_ne.2 hw
      obtain ⟨⟨p0, p1, p2, p3, p4⟩, hf⟩ := hO.here k x hx
      have hkz : (k : Int) < (n : Int) := by omega
      by_cases hk0 : k = 0
      · subst hk0
        clear hO hx
        go_enter Tryd.func46, Tryd.ntmps46
        go_wp2
        first | go_end0 | refine bodyPost_ret (results_none rfl _ _ _) rfl ?_
        exact ⟨rfl, HO.out⟩
      · have hk0z : (0 : Int) < (k : Int) := by omega
        have hk00 : (0 : Int) ≤ (k : Int) := by omega
        clear hO hx
        go_enter Tryd.func46, Tryd.ntmps46
        go_wp2
        first | go_end0 | refine bodyPost_ret (results_none rfl _ _ _) rfl ?_
        exact ⟨rfl, HO.out⟩
  · rw [sep_none (by omega)]
    have hkz : ¬ (k : Int) < (n : Int) := by omega
    by_cases hk0 : k = 0
    · subst hk0
      clear hO
      go_enter Tryd.func46, Tryd.ntmps46
      go_wp2
      first | go_end0 | refine bodyPost_ret (results_none rfl _ _ _) rfl ?_
      exact ⟨rfl, HO.out⟩
    · have hk0z : (0 : Int) < (k : Int) := by omega
      clear hO
      go_enter Tryd.func46, Tryd.ntmps46
      go_wp2
      first | go_end0 | refine bodyPost_ret (results_none rfl _ _ _) rfl ?_
      exact ⟨rfl, HO.out⟩

theorem split1 {X : List C} {k : Nat} (h : k < X.length) : ∃ x, X = X.take k ++ x :: X.drop (k + 1) := ⟨X[k], by rw [← List.drop_eq_getElem_cons h, List.take_append_drop]⟩
theorem split2 {X : List C} {k : Nat} (h : k + 2 ≤ X.length) : ∃ x y, X = X.take k ++ x :: y :: X.drop (k + 2) := ⟨X[k], X[k + 1], by rw [← List.drop_eq_getElem_cons (show k + 1 < X.length by omega), ← List.drop_eq_getElem_cons (show k < X.length by omega), List.take_append_drop]⟩
theorem set1 {X : List C} {k : Nat} (h : k < X.length) (c : C) : X.set k c = X.take k ++ [c] ++ X.drop (k + 1) := by
  obtain ⟨x, hx⟩ := split1 h
  have ht : (X.take k).length = k := by rw [List.length_take]; omega
  generalize X.take k = a at hx ht ⊢
  generalize X.drop (k + 1) = b at hx ⊢
  subst hx ht
  rw [List.set_append_right _ _ (Nat.le_refl _)]
  simp
theorem set2 {X : List C} {k : Nat} (h : k + 2 ≤ X.length) (c d : C) : (X.set (k + 1) d).set k c = X.take k ++ [c, d] ++ X.drop (k + 2) := by
  obtain ⟨x, y, hx⟩ := split2 h
  have ht : (X.take k).length = k := by rw [List.length_take]; omega
  generalize X.take k = a at hx ht ⊢
  generalize X.drop (k + 2) = b at hx ⊢
  subst hx ht
  rw [List.set_append_right _ _ (by omega), List.set_append_right _ _ (Nat.le_refl _)]
  simp
theorem sep_take (X : List C) (k : Nat) : (sep X (k + 1)).take k = X.take k := by
  unfold sep
  split
  · split
    · rw [List.take_set_of_le (by omega), List.take_set_of_le (by omega)]
    · rfl
  · rfl
theorem sep_drop (X : List C) (k : Nat) : (sep X (k + 1)).drop (k + 2) = X.drop (k + 2) := by
  unfold sep
  split
  · split
    · rw [List.drop_set_of_lt (by omega), List.drop_set_of_lt (by omega)]
    · rfl
  · rfl
theorem ref_put1 {l : List C} (h : Pr l) {k : Nat} (hk : k + 1 ≤ l.length) (c : C) : (sep (sep l k) (k + 1)).set k c = repl l k (k + 1) [c] := by
  rw [set1 (by rw [sep_length, sep_length]; omega), two_left h k (k + 1) (by omega) hk, two_right h k (k + 1) (by omega) hk]
  rfl
theorem ref_put2 {l : List C} (h : Pr l) {k : Nat} (hk : k + 2 ≤ l.length) (c d : C) : ((sep (sep (sep l k) (k + 2)) (k + 1)).set (k + 1) d).set k c = repl l k (k + 2) [c, d] := by
  rw [set2 (by rw [sep_length, sep_length, sep_length]; omega), sep_take, sep_drop, two_left h k (k + 2) (by omega) hk, two_right h k (k + 2) (by omega) hk]
  rfl

end Go.Proofs.YtcljmmadimldlaaDoor
