/-
  The walk of the document's own Parse, for every string of at most 500 bytes.
-/
import Derived.Test.YtihfjkjbeeoanaaDoorRefParse
import Derived.Test.YtihfjkjbeeoanaaDoorValues
namespace Go.Proofs.YtihfjkjbeeoanaaDoor.Ci
open Go.RowKit Go.Shelf

theorem isPar_cases (b : UInt8) : Cp.isPar b = ((decide (48 ≤ (b.toNat : Int)) && decide ((b.toNat : Int) ≤ 57)) || ((b.toNat : Int) == 59)) := by
  have e : (b == 59) = ((b.toNat : Int) == 59) := by
    by_cases h : b = 59
    · subst h; rfl
    · have h2 : b.toNat ≠ 59 := fun e => h (UInt8.toNat_inj.1 e)
      have h3 : ((b.toNat : Int) == 59) = false := by simp; omega
      rw [h3]
      simpa using h
  have e1 : decide (48 ≤ b.toNat) = decide (48 ≤ (b.toNat : Int)) := by
    by_cases h : 48 ≤ b.toNat
    · rw [decide_eq_true h, decide_eq_true (by omega)]
    · rw [decide_eq_false h, decide_eq_false (by omega)]
  have e2 : decide (b.toNat ≤ 57) = decide ((b.toNat : Int) ≤ 57) := by
    by_cases h : b.toNat ≤ 57
    · rw [decide_eq_true h, decide_eq_true (by omega)]
    · rw [decide_eq_false h, decide_eq_false (by omega)]
  unfold Cp.isPar
  rw [e, e1, e2]
/-- Where the parameter bytes begin. -/
def fromOf (l : List UInt8) : Nat := match l with
  | [] => 0
  | b :: _ => if Cp.isMk b then 1 else 0
theorem fromOf_cons (b : UInt8) (r : List UInt8) : fromOf (b :: r) = if Cp.isMk b then 1 else 0 := rfl
theorem drop_from (l : List UInt8) : l.drop (fromOf l) = Cp.tl l ∧ fromOf l ≤ 1 ∧ fromOf l ≤ l.length := by
  cases l with
  | nil => exact ⟨rfl, by simp [fromOf], by simp [fromOf]⟩
  | cons b r =>
    cases h : Cp.isMk b
    · simp [fromOf, h, Cp.tl]
    · simp [fromOf, h, Cp.tl]
/-- The bytes up to k are parameter bytes, and the next one, if there is one, is none. -/
theorem split_at (l : List UInt8) (f k : Nat) (hf : l.drop f = Cp.tl l) (hk : f ≤ k) (hl : k ≤ l.length) (ha : ((l.drop f).take (k - f)).all Cp.isPar = true) (hb : ∀ h : k < l.length, Cp.isPar l[k] = false) :
    (l.drop f).take (k - f) = Cp.par l ∧ l.drop k = Cp.mid l := by
  have e : l.drop f = (l.drop f).take (k - f) ++ l.drop k := by
    have e1 : l.drop k = (l.drop f).drop (k - f) := by rw [List.drop_drop]; congr 1; omega
    rw [e1, List.take_append_drop]
  have := Cp.takeWhile_app ((l.drop f).take (k - f)) (l.drop k) ha (fun x r hx => by
    by_cases h : k < l.length
    · rw [List.drop_eq_getElem_cons h] at hx
      injection hx with hx _
      rw [← hx]
      exact hb h
    · rw [List.drop_eq_nil_of_le (by omega)] at hx
      cases hx)
  rw [← e] at this
  unfold Cp.par Cp.mid
  rw [← hf]
  exact ⟨this.1.symm, this.2.symm⟩

theorem empty_size (s : ByteArray) : s.toList.isEmpty = decide (s.size = 0) := by
  rw [Lib.toList_data, Lib.size_eq]
  cases s.data.toList <;> simp
/-- The document's own list and mark behind the first k bytes of l. -/
def Lk (w0 w : World) (v : Value) (l : List UInt8) (k : Nat) (bg : Bool) : Prop :=
  (l = [] ∧ Out w0 w v [] ∧ bg = false) ∨ (l ≠ [] ∧ ∃ ls x, Beside (Cp.go ([], -1) (l.take k)) ls x bg ∧ Out w0 w v (ls ++ [x]))
/-- The same behind all of them. -/
theorem Lk.done {w0 w : World} {v : Value} {l : List UInt8} {bg : Bool} (h : Lk w0 w v l l.length bg) :
    ∃ L, Out w0 w v L ∧ L.length = (Cp.vals l).length ∧ bg = ((Cp.vals l).any fun z => decide (9999 < z)) ∧ (bg = false → L = Cp.vals l) := by
  rcases h with ⟨rfl, ho, rfl⟩ | ⟨hne, ls, x, ⟨h1, h2, h3, _⟩, ho⟩
  · exact ⟨[], ho, rfl, rfl, fun _ => rfl⟩
  · rw [List.take_length] at h1 h2 h3
    have hf := Cp.go_full [] (-1) l
    have hv : Cp.vals l = Cp.vs (-1) l := by unfold Cp.vals; rw [if_neg hne]
    rw [List.nil_append, ← hv] at hf
    rw [hf] at h1 h2
    refine ⟨ls ++ [x], ho, ?_, h1, h2⟩
    rw [← hf]
    simp [h3]

set_option maxHeartbeats 4000000 in
set_option maxRecDepth 100000 in
theorem refparse_any (s : ByteArray) (w : World) (hs : s.size ≤ 500) {p : UInt8} {ps : List Int} {i : List UInt8} {er : Int} (h : Cp.parse s.data.toList = (p, ps, i, er)) :
    Calls Tryd.prog 28 #[.string s] w (Parsed w p ps i er) := by
  have hsl := Lib.size_eq s
  obtain ⟨hdf, hf1, hfl⟩ := drop_from s.data.toList
  obtain ⟨f, hf⟩ : ∃ f, fromOf s.data.toList = f := ⟨_, rfl⟩
  obtain ⟨m, hm⟩ : ∃ m, Cp.mk s.data.toList = m := ⟨_, rfl⟩
  rw [hf] at hdf hf1 hfl
  have hfs : f ≤ s.size := by omega
  have HH := Lib.hid h
  have HF := Lib.hid hf
  have HM := Lib.hid hm
  have HD := Lib.hid hdf
  have HSL := Lib.hid hsl
  clear h hdf hfl hf hm hsl
  go_enter Tryd.func28, Tryd.ntmps28
  go_upto_region 3 with fail
  go_cut [23] (fun t wx => t = .bool (decide (f = 1)) ∧ w = wx)
  case first =>
    have hsl := HSL.out
    have hf := HF.out
    cases hl : s.data.toList with
    | nil =>
      rw [hl] at hf hsl
      obtain rfl : f = 0 := hf.symm
      have h0 : ¬ (0 : Int) < (s.size : Int) := by rw [List.length_nil] at hsl; omega
      clear hf hl hsl
      go_wp2
      go_meet
      exact ⟨rfl, rfl⟩
    | cons b r =>
      rw [hl] at hf hsl
      have hpos : 0 < s.size := by rw [List.length_cons] at hsl; omega
      have h0 : (0 : Int) < (s.size : Int) := by omega
      have hb : s[0] = b := by
        rw [at_list s 0 hpos]
        simp [hl]
      have c := refmarker_any b w
      have hq : decide (f = 1) = Cp.isMk b := by
        rw [← hf, fromOf_cons]
        cases Cp.isMk b <;> rfl
      rw [← hq] at c
      have C := Lib.hid c
      clear hf hl hsl c hq
      go_wp2_with fail
      refine C.out.mono ?_
      rintro e w' ⟨rfl, rfl⟩
      go_wp2
      go_meet
      exact ⟨rfl, rfl⟩
  case rest =>
    obtain ⟨rfl, rfl⟩ := hcut
    go_upto_if 23 with fail
    go_cut [6, 7] (fun a b wx => a = .int .u8 (m.toNat : Int) ∧ b = .int .i64 (f : Int) ∧ w = wx)
    case first =>
      have hf := HF.out
      have hm := HM.out
      by_cases h1 : f = 1
      · subst h1
        cases hl : s.data.toList with
        | nil => rw [hl] at hf; cases hf
        | cons b r =>
          rw [hl] at hf hm
          have hmk : Cp.isMk b = true := by
            rw [fromOf_cons] at hf
            cases h : Cp.isMk b
            · rw [h] at hf; cases hf
            · rfl
          have hmb : b = m := by rw [← hm]; simp [Cp.mk, hmk]
          subst hmb
          have hpos : 0 < s.size := by have := HSL.out; rw [hl, List.length_cons] at this; omega
          have h0 : (0 : Int) < (s.size : Int) := by omega
          have hb : s[0] = b := by
            rw [at_list s 0 hpos]
            simp [hl]
          clear hf hm hmk hl HM HF
          go_wp2
          go_meet
          exact ⟨rfl, rfl, rfl⟩
      · obtain rfl : f = 0 := by omega
        have hm0 : m = 0 := by
          rw [← hm]
          cases hl : s.data.toList with
          | nil => rfl
          | cons b r =>
            rw [hl, fromOf_cons] at hf
            cases h : Cp.isMk b
            · simp [Cp.mk, h]
            · rw [h] at hf; cases hf
        subst hm0
        clear hf hm HM HF
        go_wp2
        go_meet
        exact ⟨rfl, rfl, rfl⟩
    case rest =>
      obtain ⟨rfl, rfl, rfl⟩ := hcut
      go_wp2
      go_loopg [7] (s.size + 1) (fun gk iv wr => ∃ k : Nat, s.size + 1 ≤ gk + k ∧ f ≤ k ∧ k ≤ s.size ∧ iv = .int .i64 (k : Int) ∧ w = wr ∧ Aside (((s.data.toList.drop f).take (k - f)).all Cp.isPar = true))
      case atStart => exact ⟨f, by omega, Nat.le_refl _, hfs, rfl, rfl, by rw [Nat.sub_self, List.take_zero]; rfl⟩
      case round =>
        obtain ⟨k, hg, hfk, hks, rfl, rfl, hA⟩ := hrel
        obtain ⟨q, hq⟩ : ∃ q : Bool, (if h : k < s.size then Cp.isPar s[k] else false) = q := ⟨_, rfl⟩
        have HQ := Lib.hid hq
        clear hq
        go_upto_region 7 with fail
        go_cut [48] (fun t wx => t = .bool q ∧ w = wx)
        case first =>
          have hq := HQ.out
          by_cases hlt : k < s.size
          · rw [dif_pos hlt] at hq
            obtain ⟨b, hb⟩ : ∃ b, s[k] = b := ⟨_, rfl⟩
            rw [hb, isPar_cases] at hq
            have hz : (k : Int) < (s.size : Int) := by omega
            have hz0 : (0 : Int) ≤ (k : Int) := by omega
            by_cases h1 : (48 : Int) ≤ (b.toNat : Int)
            · rw [decide_eq_true h1, Bool.true_and] at hq
              by_cases h2 : (b.toNat : Int) ≤ 57
              · rw [decide_eq_true h2] at hq
                obtain rfl : q = true := by rw [← hq]; rfl
                clear hq
                go_wp2
                go_meet
                exact ⟨rfl, rfl⟩
              · rw [decide_eq_false h2, Bool.false_or] at hq
                go_wp2
                go_meet
                exact ⟨rfl, rfl⟩
            · rw [decide_eq_false h1, Bool.false_and, Bool.false_or] at hq
              go_wp2
              go_meet
              exact ⟨rfl, rfl⟩
          · rw [dif_neg hlt] at hq
            subst hq
            have hz : ¬ (k : Int) < (s.size : Int) := by omega
            go_wp2
            go_meet
            exact ⟨rfl, rfl⟩
        case rest =>
          obtain ⟨rfl, rfl⟩ := hcut
          have hq := HQ.out
          have hsl := HSL.out
          cases q
          · obtain ⟨a, ha⟩ : ∃ a, s.extract f k = a := ⟨_, rfl⟩
            obtain ⟨r, hr⟩ : ∃ r, s.extract k s.size = r := ⟨_, rfl⟩
            obtain ⟨e1, e2⟩ := split_at s.data.toList f k HD.out hfk (by omega) hA.out (fun h => by
              have hlt : k < s.size := by omega
              rw [dif_pos hlt] at hq
              exact hq)
            have had : a.data.toList = Cp.par s.data.toList := by rw [← ha, Lib.extract_data, e1]
            have hrd : r.data.toList = Cp.mid s.data.toList := by
              rw [← hr, Lib.extract_data, List.take_of_length_le (by rw [List.length_drop]; omega), e2]
            have h := HH.out
            unfold Cp.parse at h
            rw [HM.out, ← had, ← hrd] at h
            have hpa : a.data.toList.all Cp.isPar = true := by rw [had]; exact Cp.par_all _
            have has' : a.size ≤ 500 := by
              have e := congrArg List.length e1
              rw [List.length_take, List.length_drop, ← had] at e
              rw [Lib.size_eq]
              omega
            have hrs : r.size ≤ 500 := by
              have e := congrArg List.length e2
              rw [List.length_drop, ← hrd] at e
              rw [Lib.size_eq]
              omega
            have hz1 : (f : Int) ≤ (k : Int) := by omega
            have hz2 : (k : Int) ≤ (s.size : Int) := by omega
            have hz0 : (0 : Int) ≤ (f : Int) := by omega
            have HH2 := Lib.hid h
            have HPA := Lib.hid hpa
            clear h hpa had hrd e1 e2 hq hA HD HF HM HH hsl HQ
            go_wp2
            go_quiet (fail)
            generalize hw1 : w.drewN nq = w1
            have hb1 : Below w.heap.size w w1 := by rw [← hw1]; exact below_drewN (Below.refl _ w) _
            have B1 := Lib.hid hb1
            clear hw1 hb1 ha hr
            go_wp2
            go_loopg [11] (r.size + 1) (fun g2 iv wr => ∃ j : Nat, g2 + j = r.size + 1 ∧ j ≤ r.size ∧ iv = .int .i64 (j : Int) ∧ w1 = wr ∧ Aside ((r.data.toList.take j).all Cp.isMid = true))
            case atStart => exact ⟨0, by omega, by omega, rfl, rfl, rfl⟩
            case round =>
              obtain ⟨j, hg2, hjr, rfl, rfl, hA2⟩ := hrel
              have hrl := Lib.size_eq r
              by_cases hlt : j < r.size
              · obtain ⟨g', rfl⟩ : ∃ g', gk = g' + 1 := ⟨gk - 1, by omega⟩
                have hz : (j : Int) < (r.size : Int) := by omega
                have hzj : (0 : Int) ≤ (j : Int) := by omega
                have hjl : j < r.data.toList.length := by omega
                obtain ⟨b, hb⟩ : ∃ b, r[j] = b := ⟨_, rfl⟩
                have HB : Hid (r.data.toList[j] = b) := Lib.hid hb
                have HRL := Lib.hid hrl
                clear hrl
                have c := refmiddle_any b w1
                cases hmid : Cp.isMid b
                · rw [hmid] at c
                  have C := Lib.hid c
                  have hna : r.data.toList.all Cp.isMid = false := not_all _ j hjl (by rw [HB.out]; exact hmid)
                  have h := HH2.out
                  rw [hna] at h
                  injection h with e1 e2
                  injection e2 with e2 e3
                  injection e3 with e3 e4
                  subst e1 e2 e3 e4
                  clear c hmid hna HH2
                  go_wp2_with fail
                  refine C.out.mono ?_
                  rintro e w' ⟨rfl, rfl⟩
                  go_wp2
                  (try simp only [Exit.inBlock, Exit.then]); refine bodyPost_ret (results_tmp4 rfl _ _ _) rfl ?_
                  exact ⟨_, _, _, _, rfl, rfl, ((Out.laid w1).gives).after B1.out⟩
                · rw [hmid] at c
                  have C := Lib.hid c
                  have HMB := Lib.hid hmid
                  clear c hmid
                  go_wp2_with fail
                  refine C.out.mono ?_
                  rintro e w' ⟨rfl, rfl⟩
                  go_wp2
                  go_roundg g'
                  case measure => omega
                  case rel => exact ⟨j + 1, by omega, by omega, by go_num, rfl, take_all _ j hjl hA2.out (by rw [HB.out]; exact HMB.out)⟩
              · have hz : ¬ (j : Int) < (r.size : Int) := by omega
                have e : r.data.toList.take j = r.data.toList := List.take_of_length_le (by omega)
                rw [e] at hA2
                have h := HH2.out
                rw [hA2.out] at h
                simp only [if_true] at h
                have HH3 := Lib.hid h
                clear e hrl h HH2 hA2
                obtain ⟨qe, hemp⟩ : ∃ qe, a.toList.isEmpty = qe := ⟨_, rfl⟩
                have HEM : Hid (qe = decide (a.size = 0)) := Lib.hid (by rw [← hemp]; exact empty_size a)
                have hal := Lib.size_eq a
                have HAL := Lib.hid hal
                have HB1 := B1
                clear hal
                go_upto_if 72 with fail
                have hO0 : Aside (Out w1 (w1.alloc (.cells #[] 3)) (.slice (some ⟨w1.heap.size, 0, none⟩) 0 0) []) := Out.laid w1
                generalize w1.alloc (.cells #[] 3) = w2 at hO0 ⊢
                generalize w1.heap.size = g12 at hO0 ⊢
                go_cut [12] (fun v wx => ∃ A' n' c', v = .slice A' n' c' ∧ Aside (Lk w1 wx (.slice A' n' c') a.data.toList 0 false))
                case first =>
                  cases qe
                  rotate_left
                  · have h0 : a.size = 0 := by simpa using HEM.out
                    have hl : a.data.toList = [] := List.eq_nil_of_length_eq_zero (by rw [← HAL.out]; exact h0)
                    have HL := Lib.hid hl
                    clear hl
                    go_wp2
                    go_meet
                    exact ⟨_, _, _, rfl, (show Lk _ _ _ _ _ _ from Or.inl ⟨HL.out, hO0.out, rfl⟩)⟩
                  · have h0 : ¬ a.size = 0 := by simpa using HEM.out
                    have hl : a.data.toList ≠ [] := fun e => h0 (by rw [HAL.out, e]; rfl)
                    have HL := Lib.hid hl
                    clear hl
                    go_wp2_with (at_builtin; refine wpList_push rfl (.tmp 73) (.tmp 74) rfl w1 _ _ [] (-1) rfl rfl hO0.out (by simp) ?_; intro v' w3 hout)
                    have hO : Aside (Out w1 w3 v' ([] ++ [-1])) := hout
                    clear hout
                    go_meet
                    obtain ⟨A', c', e⟩ := hO.out.slice
                    exact ⟨_, _, _, e, (show Lk _ _ _ _ _ _ from Or.inr ⟨HL.out, [], -1, beside_start, by rw [← e]; exact hO.out⟩)⟩
                case rest =>
                  obtain ⟨A12, n12, c12, rfl, hO⟩ := hcut
                  clear hO0
                  go_wp2
                  go_loopg [12, 13, 14, 15] (a.size + 1) (fun g3 v bv iv _ wr => ∃ q : Nat, ∃ bg : Bool, g3 + q = a.size + 1 ∧ q ≤ a.size ∧ iv = .int .i64 (q : Int) ∧ bv = .bool bg ∧ ∃ A' n' c', v = .slice A' n' c' ∧ Aside (Lk w1 wr (.slice A' n' c') a.data.toList q bg))
                  case atStart => exact ⟨0, false, by omega, by omega, rfl, rfl, _, _, _, rfl, hO⟩
                  case round =>
                    obtain ⟨q, bg, hg3, hqa, rfl, rfl, A13, n13, c13, rfl, hO3⟩ := hrel
                    by_cases hlt : q < a.size
                    · obtain ⟨g', rfl⟩ : ∃ g', gk = g' + 1 := ⟨gk - 1, by omega⟩
                      have hz : (q : Int) < (a.size : Int) := by omega
                      have hzq : (0 : Int) ≤ (q : Int) := by omega
                      have hql : q < a.data.toList.length := by rw [← HAL.out]; exact hlt
                      have hst := take_go a.data.toList q hql
                      have hpb := all_at _ q hql HPA.out
                      have hcl := Cp.go_len (a.data.toList.take q)
                      obtain ⟨b, hb⟩ : ∃ b, a[q] = b := ⟨_, rfl⟩
                      have hb' : a.data.toList[q] = b := hb
                      rw [hb'] at hst hpb
                      obtain ⟨hne, ls, x, hbs, hout⟩ : a.data.toList ≠ [] ∧ ∃ ls x, Beside (Cp.go ([], -1) (a.data.toList.take q)) ls x bg ∧ Out w1 wr (.slice A13 n13 c13) (ls ++ [x]) := by
                        rcases hO3.out with ⟨e, _⟩ | h
                        · rw [e] at hql; exact absurd hql (Nat.not_lt_zero _)
                        · exact h
                      rw [List.length_take] at hcl
                      have hll : ls.length ≤ 500 := by have := hbs.2.2.1; omega
                      have hx0 := hbs.2.2.2.1
                      have hx1 := hbs.2.2.2.2
                      have HST := Lib.hid hst
                      have HBS := Lib.hid hbs
                      have HNE := Lib.hid hne
                      have HO : Aside (Out w1 wr (.slice A13 n13 c13) (ls ++ [x])) := hout
                      generalize Cp.go ([], -1) (a.data.toList.take q) = st at HST HBS
                      clear hst hbs hne hout hb' hO3 hcl
                      by_cases h59 : b = 59
                      · subst h59
                        clear hpb
                        go_wp2_with (at_builtin; refine wpList_push rfl (.tmp 86) (.tmp 87) rfl w1 _ _ (ls ++ [x]) (-1) rfl rfl HO.out (by rw [List.length_append]; show ls.length + 1 ≤ 100000; omega) ?_; intro v' w3 hout)
                        have hO4 : Aside (Out w1 w3 v' (ls ++ [x] ++ [-1])) := hout
                        obtain ⟨A', c', e⟩ := hout.slice
                        subst e
                        clear hout
                        go_roundg g'
                        case measure => omega
                        case rel =>
                          refine ⟨q + 1, bg, by omega, by omega, by go_num, rfl, _, _, _, rfl, (show Lk _ _ _ _ _ _ from Or.inr ⟨HNE.out, ls ++ [x], -1, ?_, hO4.out⟩)⟩
                          rw [HST.out]
                          exact beside_sep HBS.out
                      · have hd := Cp.par_digit b hpb h59
                        have hbz : ((b.toNat : Int) == 59) = false := by
                          simp only [beq_eq_false_iff_ne, ne_eq]
                          omega
                        have HS2 : Hid (Cp.go ([], -1) (a.data.toList.take (q + 1)) = (st.1, Cp.dg st.2 b)) := Lib.hid (by rw [HST.out]; unfold Cp.step; rw [if_neg h59])
                        obtain ⟨g9, cap9, e9, _, _, hc9, hf9, hset⟩ := HO.out.last
                        have hset' : Aside (∀ y : Int, Out w1 (wr.setCell ⟨g9, ls.length, none⟩ (.int .i64 y)) (.slice A13 n13 c13) (ls ++ [y])) := hset
                        injection e9 with e91 e92 e93
                        subst e91 e93
                        obtain ⟨m9, hm9⟩ : ∃ m9, ls.length = m9 := ⟨_, rfl⟩
                        rw [hm9] at e92 hc9 hf9 hset' hll
                        have hix : (n13 : Int) - 1 = (m9 : Int) := by omega
                        have hi0 : (0 : Int) ≤ (m9 : Int) := by omega
                        have hi1 : (m9 : Int) < (n13 : Int) := by omega
                        have hd1 : (48 : Int) ≤ (b.toNat : Int) := by omega
                        have hd2 : (b.toNat : Int) ≤ 57 := by omega
                        clear hset HO HST hpb h59 hm9 e92 hd
                        by_cases hx : x < 0
                        · have hN : ¬ 9999 < (b.toNat : Int) - 48 := by omega
                          have K := Lib.hid ((beside_digit HBS.out b (by omega) ((b.toNat : Int) - 48) (by rw [if_pos hx]; omega)).2 hN)
                          go_wp2
                          go_roundg g'
                          case measure => omega
                          case rel => exact ⟨q + 1, bg, by omega, by omega, by go_num, rfl, _, _, _, rfl, (show Lk _ _ _ _ _ _ from Or.inr ⟨HNE.out, ls, _, by rw [HS2.out]; exact K.out, hset'.out _⟩)⟩
                        · by_cases hN : 9999 < 10 * x + ((b.toNat : Int) - 48)
                          · have K := Lib.hid ((beside_digit HBS.out b (by omega) (10 * x + ((b.toNat : Int) - 48)) (by rw [if_neg hx])).1 hN)
                            go_wp2
                            go_roundg g'
                            case measure => omega
                            case rel => exact ⟨q + 1, true, by omega, by omega, by go_num, rfl, _, _, _, rfl, (show Lk _ _ _ _ _ _ from Or.inr ⟨HNE.out, ls, _, by rw [HS2.out]; exact K.out, hset'.out _⟩)⟩
                          · have K := Lib.hid ((beside_digit HBS.out b (by omega) (10 * x + ((b.toNat : Int) - 48)) (by rw [if_neg hx])).2 hN)
                            go_wp2
                            go_roundg g'
                            case measure => omega
                            case rel => exact ⟨q + 1, bg, by omega, by omega, by go_num, rfl, _, _, _, rfl, (show Lk _ _ _ _ _ _ from Or.inr ⟨HNE.out, ls, _, by rw [HS2.out]; exact K.out, hset'.out _⟩)⟩
                    · have hz : ¬ (q : Int) < (a.size : Int) := by omega
                      obtain ⟨L, hout, hLl, hbg, hLV⟩ := Lk.done (l := a.data.toList) (by rw [← HAL.out]; have e : q = a.size := by omega
                                                                                          rw [← e]; exact hO3.out)
                      have hn13 := hout.nums.1
                      have hb2 : Below w.heap.size w wr := B1.out.trans (hout.2.mono B1.out.size)
                      have HB2 := Lib.hid hb2
                      have h := HH3.out
                      have hov : Cp.over (Cp.vals a.data.toList) r.data.toList = (decide (16 < n13) || decide (2 < r.size) || bg) := by
                        unfold Cp.over
                        rw [← hLl, ← hn13, ← Lib.size_eq r, ← hbg]
                      rw [hov] at h
                      have HO : Aside (Out w1 wr (.slice A13 n13 c13) L) := hout
                      have HLV := Lib.hid hLV
                      clear hout hLl hbg hLV hb2 hov HH3 hO3 hn13
                      cases bg
                      · simp only [Bool.or_false] at h
                        by_cases h16 : 16 < n13
                        · have h16z : (16 : Int) < (n13 : Int) := by omega
                          rw [decide_eq_true h16, Bool.true_or, if_pos rfl] at h
                          injection h with e1 e2
                          injection e2 with e2 e3
                          injection e3 with e3 e4
                          subst e1 e2 e3 e4
                          go_wp2
                          (try simp only [Exit.inBlock, Exit.then]); refine bodyPost_ret (results_tmp4 rfl _ _ _) rfl ?_
                          exact ⟨_, _, _, _, rfl, rfl, ((Out.laid wr).gives).after HB2.out⟩
                        · have h16z : ¬ (16 : Int) < (n13 : Int) := by omega
                          rw [decide_eq_false h16, Bool.false_or] at h
                          by_cases h2 : 2 < r.size
                          · have h2z : (2 : Int) < (r.size : Int) := by omega
                            rw [decide_eq_true h2, if_pos rfl] at h
                            injection h with e1 e2
                            injection e2 with e2 e3
                            injection e3 with e3 e4
                            subst e1 e2 e3 e4
                            go_wp2
                            (try simp only [Exit.inBlock, Exit.then]); refine bodyPost_ret (results_tmp4 rfl _ _ _) rfl ?_
                            exact ⟨_, _, _, _, rfl, rfl, ((Out.laid wr).gives).after HB2.out⟩
                          · have h2z : ¬ (2 : Int) < (r.size : Int) := by omega
                            rw [decide_eq_false h2, if_neg (by simp)] at h
                            injection h with e1 e2
                            injection e2 with e2 e3
                            injection e3 with e3 e4
                            rw [← HLV.out rfl] at e2
                            subst e1 e2 e3 e4
                            go_wp2
                            (try simp only [Exit.inBlock, Exit.then]); refine bodyPost_ret (results_tmp4 rfl _ _ _) rfl ?_
                            exact ⟨_, _, _, _, rfl, rfl, (HO.out.gives).after B1.out⟩
                      · rw [Bool.or_true, if_pos rfl] at h
                        injection h with e1 e2
                        injection e2 with e2 e3
                        injection e3 with e3 e4
                        subst e1 e2 e3 e4
                        go_wp2
                        (try simp only [Exit.inBlock, Exit.then]); refine bodyPost_ret (results_tmp4 rfl _ _ _) rfl ?_
                        exact ⟨_, _, _, _, rfl, rfl, ((Out.laid wr).gives).after HB2.out⟩
          · have hlt : k < s.size := by
              by_cases h : k < s.size
              · exact h
              · rw [dif_neg h] at hq; cases hq
            rw [dif_pos hlt] at hq
            obtain ⟨g', rfl⟩ : ∃ g', gk = g' + 1 := ⟨gk - 1, by omega⟩
            have hA2 : ((s.data.toList.drop f).take (k + 1 - f)).all Cp.isPar = true := by
              have e : k + 1 - f = (k - f) + 1 := by omega
              have hkl : k - f < (s.data.toList.drop f).length := by rw [List.length_drop]; omega
              rw [e]
              refine take_all _ (k - f) hkl hA.out ?_
              have e2 : (s.data.toList.drop f)[k - f] = s[k] := by
                rw [List.getElem_drop, at_list s k hlt]
                congr 1
                omega
              rw [e2]
              exact hq
            have HA2 := Lib.hid hA2
            clear hA2 hq hsl
            go_wp2
            go_roundg g'
            case measure => omega
            case rel => exact ⟨k + 1, by omega, by omega, by omega, by go_num, rfl, HA2.out⟩

end Go.Proofs.YtihfjkjbeeoanaaDoor.Ci
