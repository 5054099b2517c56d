/-
  The statement on what is read behind Put returns true.
-/
import Derived.Test.YtcljmmadimldlaaDoorCrFitsWalk
namespace Go.Proofs.YtcljmmadimldlaaDoor
open Go.RowKit Go.Shelf Cr

/-- What Put leaves where it changes a row. -/
theorem put_reads {l : List C} {col : Int} {t : ByteArray} {f b g : Int} (h : putE l col t = 0) : ∃ k m : Nat, col = (k : Int) ∧ wd t = (m : Int) ∧ (m = 1 ∨ m = 2) ∧ k + m ≤ l.length ∧ l.length ≤ 132 ∧ (putL l col t f b g).length = l.length ∧
    (putL l col t f b g)[k]? = some ⟨t, (m : Int), f, b, g⟩ ∧ (m = 2 → (putL l col t f b g)[k + 1]? = some ⟨⟨#[]⟩, 0, f, b, g⟩) ∧
    ∀ (x : Nat) (c : C), l[x]? = some c → (x < k ∨ k + m ≤ x) → (putL l col t f b g)[x]? = some (if (x + 1 = k ∧ c.w = 2) ∨ (x = k + m ∧ c.w = 0) then Cr.blank c.b else c) := by
  have hc : colE l col = 0 := by
    unfold putE at h
    split at h
    · rename_i hh; exact absurd h hh
    · rename_i hh; omega
  obtain ⟨k, rfl, hk, h132, hP⟩ := colE_zero hc
  have ht : chk t = 0 ∧ ¬ (l.length : Int) < (k : Int) + wd t := by
    unfold putE at h
    rw [if_neg (by omega)] at h
    split at h
    · cases h
    · split at h
      · cases h
      · rename_i h3 h4
        exact ⟨by omega, h4⟩
  obtain ⟨m, hm, hm2⟩ : ∃ m : Nat, wd t = (m : Int) ∧ (m = 1 ∨ m = 2) := by rcases wd_ok ht.1 with e | e; exact ⟨1, e, .inl rfl⟩; exact ⟨2, e, .inr rfl⟩
  have hkm : k + m ≤ l.length := by omega
  have hg := put_good hP (by omega) h132 k (m := m) ht.1 hm hkm hk f b g
  have hcl := (cells_Pr ht.1 f b g).2
  have hcl' : (cells t f b g).length = k + m - k := by omega
  refine ⟨k, m, rfl, hm, hm2, hkm, h132, ?_, ?_, ?_, ?_⟩
  · rw [hg.2, repl_length k (k + m) (by omega) hkm hcl']
  · rw [hg.2, repl_in (by omega) hkm hcl' (Nat.le_refl _) (by omega), Nat.sub_self]
    unfold cells
    rcases hm2 with rfl | rfl
    · rw [if_neg (by omega), hm]; rfl
    · rw [if_pos (show wd t = 2 from hm)]; rfl
  · intro e
    subst e
    rw [hg.2, repl_in (by omega) hkm hcl' (by omega) (by omega), Nat.add_sub_cancel_left]
    unfold cells
    rw [if_pos (show wd t = 2 from hm)]; rfl
  · intro x c hx ho
    rw [hg.2, repl_out (by omega) hkm hcl' hx ho]

set_option maxHeartbeats 6000000 in
set_option maxRecDepth 100000 in
theorem reads_walk (A : Option Addr) (n c : Nat) (l : List C) (col : Int) (t : ByteArray) (f b g : Int) (w : World) (hr : Rd w A n l) (hnc : n ≤ c) (hmax : n ≤ 9223372036854775807) (_hc0 : -9223372036854775808 ≤ col) (_hc1 : col ≤ 9223372036854775807) (_htm : t.size ≤ 9223372036854775807) (hT : Lib.Utf8Tabs 0 1 w) :
    Calls Tryd.prog 8 #[.slice A n c, .int .i64 col, .string t, .agg #[.int .i64 f, .int .i64 b, .int .i64 g]] w fun e w' => e = .returned (.bool true) ∧ Below w.heap.size w w' := by
  have hl : l.length = n := hr.1
  obtain ⟨W, hW⟩ : ∃ W, w.alloc (.cells #[.int .i64 f, .int .i64 b, .int .i64 g] 24) = W := ⟨_, rfl⟩
  have bW : Below w.heap.size w W := by rw [← hW]; exact (Below.refl _ _).alloc (Nat.le_refl _) _
  have hkA : W.heap[w.heap.size]? = some (.cells #[.int .i64 f, .int .i64 b, .int .i64 g] 24) := by rw [← hW]; exact heap_alloc_new w _
  have HKA := Lib.hid (fun W' (h : Below W.heap.size W W') => (h.block _ (Array.getElem?_eq_some_iff.1 hkA).1).trans hkA)
  have HR := Lib.hid hr
  have HW := Lib.hid bW
  have HT := Lib.hid (fun W' (h : Below w.heap.size w W') => Utf8Tabs_below hT h)
  have CG := Lib.hid (great_any A n c l W (hr.below bW))
  clear bW hkA
  cases hg : great l
  · rw [hg] at CG
    have hsm := sm_of hg
    clear hr hT hg
    by_cases h40 : 40 < t.size
    · have h40z : (40 : Int) < (t.size : Int) := by omega
      clear hsm
      go_enter Tryd.func8, Tryd.ntmps8
      go_wp2_with fail
      refine (CG.out).mono ?_
      rintro e w0 ⟨rfl, rfl⟩
      clear CG
      go_wp2_with fail
      refine (awake_true W (HT.out _ HW.out)).mono ?_
      rintro e wz ⟨rfl, bz⟩
      go_wp2
      go_ret
      exact ⟨rfl, HW.out.trans (bz.mono HW.out.size)⟩
    · have h40z : ¬ (40 : Int) < (t.size : Int) := by omega
      have FP := Lib.hid (put_any A n c l col t f b g W (HR.out.below HW.out) hnc hmax hsm.1 (by omega) (HT.out W HW.out))
      have HPR := Lib.hid (fun h => put_reads (l := l) (col := col) (t := t) (f := f) (b := b) (g := g) h)
      have FW := Lib.hid (fun W' (h : Below w.heap.size w W') => widthC_any t W' (by omega) (HT.out W' h))
      obtain ⟨q, hq⟩ : ∃ q, putE l col t = q := ⟨_, rfl⟩
      obtain ⟨lm, hlm⟩ : ∃ lm, putL l col t f b g = lm := ⟨_, rfl⟩
      rw [hq] at FP HPR
      rw [hlm] at FP HPR
      have hsl := hsm.2
      clear hq hlm hsm
      by_cases h0 : q = 0
      · subst h0
        obtain ⟨k, m, rfl, hm, hm2, hkm, h132, hll, hk1, hk2, hout⟩ := HPR.out rfl
        rw [show Cl.widthC t.data.toList = (m : Int) from hm] at FW
        obtain ⟨ab, ao, rfl⟩ := HR.out.addr (by omega)
        have HK1 := Lib.hid hk1
        have HK2 := Lib.hid hk2
        have HO := Lib.hid hout
        have HLL := Lib.hid (hll.trans hl)
        have hk0 : (0 : Int) ≤ (k : Int) := by omega
        have hkn : (k : Int) < (n : Int) := by omega
        have hkmz : (k : Int) + (m : Int) ≤ (n : Int) := by omega
        have hn132 : (n : Int) ≤ 132 := by omega
        have hm0 : (0 : Int) ≤ (m : Int) := by omega
        have HM2 := Lib.hid hm2
        clear hm hk1 hk2 hout hll HPR
        go_enter Tryd.func8, Tryd.ntmps8
        go_wp2_with fail
        refine (CG.out).mono ?_
        rintro e w0 ⟨rfl, rfl⟩
        clear CG
        have q0 := cell_of_row W _ 0 _ _ _ (HKA.out W (Below.refl _ _))
        have q1 := cell_of_row W _ 1 _ _ _ (HKA.out W (Below.refl _ _))
        have q2 := cell_of_row W _ 2 _ _ _ (HKA.out W (Below.refl _ _))
        go_wp2_with fail
        refine (FP.out).mono ?_
        rintro e w1 ⟨A1, n1, c1, rfl, g1⟩
        have B1 := Lib.hid (HW.out.trans (g1.2.2.mono HW.out.size))
        have BW1 := Lib.hid g1.2.2
        have G1 := Lib.hid g1
        clear g1 FP q0 q1 q2
        obtain rfl : n = n1 := by rw [G1.out.len, HLL.out]
        go_wp2_with fail
        refine (FW.out w1 B1.out).mono ?_
        rintro e w2 ⟨rfl, b2⟩
        have B2 := Lib.hid (B1.out.trans (b2.mono B1.out.size))
        have BW2 := Lib.hid (BW1.out.trans (b2.mono BW1.out.size))
        have M2 := Lib.hid (G1.out.1.below b2)
        clear b2 FW G1 BW1 B1
        obtain ⟨mb, mo, rfl⟩ := M2.out.addr (by omega)
        go_upto_region 7 with fail
        go_cut [60] (fun v wx => v = .bool false ∧ w2 = wx)
        case first =>
          have a1 : ¬ (k : Int) < 0 := by omega
          have a2 : ¬ (n : Int) ≤ (k : Int) := by omega
          have a3 : ¬ n ≤ k := by omega
          rcases hm2 with rfl | rfl
          · go_wp2
            go_meet
            exact ⟨by first | rfl | (simp <;> omega), rfl⟩
          · have h2n : ¬ (n : Int) ≤ (k : Int) + 1 := by omega
            have h2n' : ¬ n ≤ k + 1 := by omega
            go_wp2
            go_meet
            exact ⟨by first | rfl | (simp <;> omega), rfl⟩
        case rest =>
          obtain ⟨rfl, rfl⟩ := hcut
          go_upto_region 9 with fail
          go_cut [83] (fun v wx => v = .bool false ∧ Aside (Below w2.heap.size w2 wx))
          case first =>
            obtain ⟨mb', mo', e1, _, s0, s1, s2, s3, s4⟩ := M2.out.at k _ HK1.out
            injection e1 with e1
            injection e1 with e1 e2
            subst e1 e2
            simp only at s0 s1 s2 s3 s4
            have hneq := fun W => neq_cell t t (m : Int) (m : Int) f f b b g g W
            rw [decide_eq_true rfl] at hneq
            have q0 := cell_of_row w2 _ 0 _ _ _ (HKA.out w2 BW2.out)
            have q1 := cell_of_row w2 _ 1 _ _ _ (HKA.out w2 BW2.out)
            have q2 := cell_of_row w2 _ 2 _ _ _ (HKA.out w2 BW2.out)
            rcases hm2 with rfl | rfl
            · go_region
              go_wp2
              go_meet
              exact ⟨rfl, (Below.refl _ _).drew⟩
            · obtain ⟨mb', mo', e1, _, r0, r1, r2, r3, r4⟩ := M2.out.at (k + 1) _ (HK2.out rfl)
              injection e1 with e1
              injection e1 with e1 e2
              subst e1 e2
              simp only at r0 r1 r2 r3 r4
              have hneq2 := fun W => neq_cell ⟨#[]⟩ ⟨#[]⟩ 0 0 f f b b g g W
              rw [decide_eq_true rfl] at hneq2
              obtain ⟨k1, hk1⟩ : ∃ k1, k + 1 = k1 := ⟨_, rfl⟩
              rw [hk1] at r0 r1 r2 r3 r4
              have hk1z : (k : Int) + 1 = (k1 : Int) := by omega
              have hk1n : (k1 : Int) < (n : Int) := by omega
              have hk10 : (0 : Int) ≤ (k1 : Int) := by omega
              have hwk : IntKind.i64.wrap (k1 : Int) = (k1 : Int) := by rw [IntKind.wrap_i64]; omega
              have HK1' := Lib.hid hk1
              clear hk1
              go_region
              go_wp2
              go_meet
              exact ⟨rfl, (Below.refl _ _).drew⟩
          case rest =>
            obtain ⟨rfl, hA0⟩ := hcut
            have B3 := Lib.hid (B2.out.trans (hA0.out.mono B2.out.size))
            have M3 := Lib.hid (M2.out.below hA0.out)
            clear hA0 M2
            go_wp2
            go_loopg [12, 13] (n + 1) (fun gk v12 _ wr => ∃ r : Nat, gk + r = n + 1 ∧ r ≤ n ∧ v12 = .int .i64 (r : Int) ∧ Aside (Below wc.heap.size wc wr))
            case atStart => exact ⟨0, by omega, Nat.zero_le _, rfl, Below.refl _ _⟩
            case round =>
              obtain ⟨r, hgk, hrn, rfl, hA⟩ := hrel
              have Br := Lib.hid (B3.out.trans (hA.out.mono B3.out.size))
              by_cases hlt : r < n
              · obtain ⟨gf, rfl⟩ : ∃ gf, gk = gf + 1 := ⟨gk - 1, by omega⟩
                have hz : (r : Int) < (n : Int) := by omega
                have hz0 : (0 : Int) ≤ (r : Int) := by omega
                by_cases c1 : k ≤ r
                · have c1z : (k : Int) ≤ (r : Int) := by omega
                  by_cases c2 : r < k + m
                  · have c2z : (r : Int) < (k : Int) + (m : Int) := by omega
                    go_wp2
                    go_roundg gf
                    case measure => omega
                    case rel => exact ⟨r + 1, by omega, by omega, by go_num, hA.out⟩
                  · have c2z : ¬ (r : Int) < (k : Int) + (m : Int) := by omega
                    have ho : r < k ∨ k + m ≤ r := .inr (by omega)
                    have hrl : r < l.length := by omega
                    obtain ⟨y, hy⟩ : ∃ y, l[r]? = some y := ⟨l[r], List.getElem?_eq_getElem hrl⟩
                    obtain ⟨ab', ao', e1, _, p0, p1, p2, p3, p4⟩ := (HR.out.below Br.out).at r y hy
                    injection e1 with e1
                    injection e1 with e1 e2
                    subst e1 e2
                    obtain ⟨pb, hpb⟩ : ∃ pb, decide ((r + 1 = k ∧ y.w = 2) ∨ (r = k + m ∧ y.w = 0)) = pb := ⟨_, rfl⟩
                    have HPB := Lib.hid hpb
                    have hmr := HO.out r y hy ho
                    have HMR := Lib.hid hmr
                    clear hmr hpb hy ho
                    have hk132 : (k : Int) ≤ 132 := by omega
                    go_upto_region 15 with fail
                    go_cut [13] (fun v wx => v = .bool pb ∧ wr = wx)
                    case first =>
                      have fin : ∀ q : Bool, (q = true ↔ ((r + 1 = k ∧ y.w = 2) ∨ (r = k + m ∧ y.w = 0))) → q = pb := fun q h => by
                        rw [← HPB.out]
                        by_cases hd : (r + 1 = k ∧ y.w = 2) ∨ (r = k + m ∧ y.w = 0)
                        · rw [decide_eq_true hd]; exact h.2 hd
                        · rw [decide_eq_false hd]
                          cases q
                          · rfl
                          · exact absurd (h.1 rfl) hd
                      have FIN := Lib.hid fin
                      clear fin p0 p2 p3 p4
                      by_cases c3 : r + 1 = k
                      · have c3b : ((r : Int) == (k : Int) - 1) = true := beq_iff_eq.2 (by omega)
                        have c5 : r ≠ k + m := by omega
                        have c5b : ((r : Int) == (k : Int) + (m : Int)) = false := beq_eq_false_iff_ne.2 (by omega)
                        have C3 := Lib.hid c3
                        clear c3
                        by_cases c4 : y.w = 2
                        · have c4b : (y.w == 2) = true := beq_iff_eq.2 c4
                          have C4 := Lib.hid c4
                          clear c4
                          go_wp2
                          go_meet
                          exact ⟨congrArg Value.bool (FIN.out true ⟨fun _ => .inl ⟨C3.out, C4.out⟩, fun _ => rfl⟩), rfl⟩
                        · have c4b : (y.w == 2) = false := beq_eq_false_iff_ne.2 c4
                          go_wp2
                          go_meet
                          exact ⟨congrArg Value.bool (FIN.out false ⟨(fun h => by cases h), fun h => h.elim (fun h => absurd h.2 c4) (fun h => absurd h.1 c5)⟩), rfl⟩
                      · have c3b : ((r : Int) == (k : Int) - 1) = false := beq_eq_false_iff_ne.2 (by omega)
                        by_cases c5 : r = k + m
                        · have c5b : ((r : Int) == (k : Int) + (m : Int)) = true := beq_iff_eq.2 (by omega)
                          have C5 := Lib.hid c5
                          clear c5
                          by_cases c6 : y.w = 0
                          · have c6b : (y.w == 0) = true := beq_iff_eq.2 c6
                            have C6 := Lib.hid c6
                            clear c6
                            go_wp2
                            go_meet
                            exact ⟨congrArg Value.bool (FIN.out true ⟨fun _ => .inr ⟨C5.out, C6.out⟩, fun _ => rfl⟩), rfl⟩
                          · have c6b : (y.w == 0) = false := beq_eq_false_iff_ne.2 c6
                            go_wp2
                            go_meet
                            exact ⟨congrArg Value.bool (FIN.out false ⟨(fun h => by cases h), fun h => h.elim (fun h => absurd h.1 c3) (fun h => absurd h.2 c6)⟩), rfl⟩
                        · have c5b : ((r : Int) == (k : Int) + (m : Int)) = false := beq_eq_false_iff_ne.2 (by omega)
                          go_wp2
                          go_meet
                          exact ⟨congrArg Value.bool (FIN.out false ⟨(fun h => by cases h), fun h => h.elim (fun h => absurd h.1 c3) (fun h => absurd h.1 c5)⟩), rfl⟩
                    case rest =>
                      obtain ⟨rfl, rfl⟩ := hcut
                      cases pb
                      · have hv := HMR.out
                        rw [if_neg (of_decide_eq_false HPB.out)] at hv
                        obtain ⟨mb', mo', e1, _, s0, s1, s2, s3, s4⟩ := (M3.out.below hA.out).at r y hv
                        injection e1 with e1
                        injection e1 with e1 e2
                        subst e1 e2
                        have hneq := fun W => neq_cell y.t y.t y.w y.w y.f y.f y.b y.b y.g y.g W
                        rw [decide_eq_true rfl] at hneq
                        clear hv
                        go_wp2
                        go_region
                        go_wp2
                        go_roundg gf
                        case measure => omega
                        case rel => exact ⟨r + 1, by omega, by omega, by go_num, hA.out.drew⟩
                      · have hv := HMR.out
                        rw [if_pos (of_decide_eq_true HPB.out)] at hv
                        obtain ⟨mb', mo', e1, _, s0, s1, s2, s3, s4⟩ := (M3.out.below hA.out).at r _ hv
                        injection e1 with e1
                        injection e1 with e1 e2
                        subst e1 e2
                        simp only [Cr.blank, sp] at s0 s1 s2 s3 s4
                        have hneq := fun W => neq_cell ⟨#[32]⟩ ⟨#[32]⟩ 1 1 (-1) (-1) y.b y.b 0 0 W
                        rw [decide_eq_true rfl] at hneq
                        clear hv
                        go_wp2
                        go_region
                        go_wp2
                        go_roundg gf
                        case measure => omega
                        case rel => exact ⟨r + 1, by omega, by omega, by go_num, hA.out.drew⟩
                · have c1z : ¬ (k : Int) ≤ (r : Int) := by omega
                  have ho : r < k ∨ k + m ≤ r := .inl (by omega)
                  have hrl : r < l.length := by omega
                  obtain ⟨y, hy⟩ : ∃ y, l[r]? = some y := ⟨l[r], List.getElem?_eq_getElem hrl⟩
                  obtain ⟨ab', ao', e1, _, p0, p1, p2, p3, p4⟩ := (HR.out.below Br.out).at r y hy
                  injection e1 with e1
                  injection e1 with e1 e2
                  subst e1 e2
                  obtain ⟨pb, hpb⟩ : ∃ pb, decide ((r + 1 = k ∧ y.w = 2) ∨ (r = k + m ∧ y.w = 0)) = pb := ⟨_, rfl⟩
                  have HPB := Lib.hid hpb
                  have hmr := HO.out r y hy ho
                  have HMR := Lib.hid hmr
                  clear hmr hpb hy ho
                  have hk132 : (k : Int) ≤ 132 := by omega
                  go_upto_region 15 with fail
                  go_cut [13] (fun v wx => v = .bool pb ∧ wr = wx)
                  case first =>
                    have fin : ∀ q : Bool, (q = true ↔ ((r + 1 = k ∧ y.w = 2) ∨ (r = k + m ∧ y.w = 0))) → q = pb := fun q h => by
                      rw [← HPB.out]
                      by_cases hd : (r + 1 = k ∧ y.w = 2) ∨ (r = k + m ∧ y.w = 0)
                      · rw [decide_eq_true hd]; exact h.2 hd
                      · rw [decide_eq_false hd]
                        cases q
                        · rfl
                        · exact absurd (h.1 rfl) hd
                    have FIN := Lib.hid fin
                    clear fin p0 p2 p3 p4
                    by_cases c3 : r + 1 = k
                    · have c3b : ((r : Int) == (k : Int) - 1) = true := beq_iff_eq.2 (by omega)
                      have c5 : r ≠ k + m := by omega
                      have c5b : ((r : Int) == (k : Int) + (m : Int)) = false := beq_eq_false_iff_ne.2 (by omega)
                      have C3 := Lib.hid c3
                      clear c3
                      by_cases c4 : y.w = 2
                      · have c4b : (y.w == 2) = true := beq_iff_eq.2 c4
                        have C4 := Lib.hid c4
                        clear c4
                        go_wp2
                        go_meet
                        exact ⟨congrArg Value.bool (FIN.out true ⟨fun _ => .inl ⟨C3.out, C4.out⟩, fun _ => rfl⟩), rfl⟩
                      · have c4b : (y.w == 2) = false := beq_eq_false_iff_ne.2 c4
                        go_wp2
                        go_meet
                        exact ⟨congrArg Value.bool (FIN.out false ⟨(fun h => by cases h), fun h => h.elim (fun h => absurd h.2 c4) (fun h => absurd h.1 c5)⟩), rfl⟩
                    · have c3b : ((r : Int) == (k : Int) - 1) = false := beq_eq_false_iff_ne.2 (by omega)
                      by_cases c5 : r = k + m
                      · have c5b : ((r : Int) == (k : Int) + (m : Int)) = true := beq_iff_eq.2 (by omega)
                        have C5 := Lib.hid c5
                        clear c5
                        by_cases c6 : y.w = 0
                        · have c6b : (y.w == 0) = true := beq_iff_eq.2 c6
                          have C6 := Lib.hid c6
                          clear c6
                          go_wp2
                          go_meet
                          exact ⟨congrArg Value.bool (FIN.out true ⟨fun _ => .inr ⟨C5.out, C6.out⟩, fun _ => rfl⟩), rfl⟩
                        · have c6b : (y.w == 0) = false := beq_eq_false_iff_ne.2 c6
                          go_wp2
                          go_meet
                          exact ⟨congrArg Value.bool (FIN.out false ⟨(fun h => by cases h), fun h => h.elim (fun h => absurd h.1 c3) (fun h => absurd h.2 c6)⟩), rfl⟩
                      · have c5b : ((r : Int) == (k : Int) + (m : Int)) = false := beq_eq_false_iff_ne.2 (by omega)
                        go_wp2
                        go_meet
                        exact ⟨congrArg Value.bool (FIN.out false ⟨(fun h => by cases h), fun h => h.elim (fun h => absurd h.1 c3) (fun h => absurd h.1 c5)⟩), rfl⟩
                  case rest =>
                    obtain ⟨rfl, rfl⟩ := hcut
                    cases pb
                    · have hv := HMR.out
                      rw [if_neg (of_decide_eq_false HPB.out)] at hv
                      obtain ⟨mb', mo', e1, _, s0, s1, s2, s3, s4⟩ := (M3.out.below hA.out).at r y hv
                      injection e1 with e1
                      injection e1 with e1 e2
                      subst e1 e2
                      have hneq := fun W => neq_cell y.t y.t y.w y.w y.f y.f y.b y.b y.g y.g W
                      rw [decide_eq_true rfl] at hneq
                      clear hv
                      go_wp2
                      go_region
                      go_wp2
                      go_roundg gf
                      case measure => omega
                      case rel => exact ⟨r + 1, by omega, by omega, by go_num, hA.out.drew⟩
                    · have hv := HMR.out
                      rw [if_pos (of_decide_eq_true HPB.out)] at hv
                      obtain ⟨mb', mo', e1, _, s0, s1, s2, s3, s4⟩ := (M3.out.below hA.out).at r _ hv
                      injection e1 with e1
                      injection e1 with e1 e2
                      subst e1 e2
                      simp only [Cr.blank, sp] at s0 s1 s2 s3 s4
                      have hneq := fun W => neq_cell ⟨#[32]⟩ ⟨#[32]⟩ 1 1 (-1) (-1) y.b y.b 0 0 W
                      rw [decide_eq_true rfl] at hneq
                      clear hv
                      go_wp2
                      go_region
                      go_wp2
                      go_roundg gf
                      case measure => omega
                      case rel => exact ⟨r + 1, by omega, by omega, by go_num, hA.out.drew⟩
              · have hz : ¬ (r : Int) < (n : Int) := by omega
                clear hA
                go_wp2_with fail
                refine (awake_true wr (HT.out _ Br.out)).mono ?_
                rintro e wz ⟨rfl, bz⟩
                go_wp2
                go_ret
                exact ⟨rfl, Br.out.trans (bz.mono Br.out.size)⟩
      · have hqb : (((q : Nat) : Int) != 0) = true := nat_ne h0
        clear FW HPR
        go_enter Tryd.func8, Tryd.ntmps8
        go_wp2_with fail
        refine (CG.out).mono ?_
        rintro e w0 ⟨rfl, rfl⟩
        clear CG
        have q0 := cell_of_row W _ 0 _ _ _ (HKA.out W (Below.refl _ _))
        have q1 := cell_of_row W _ 1 _ _ _ (HKA.out W (Below.refl _ _))
        have q2 := cell_of_row W _ 2 _ _ _ (HKA.out W (Below.refl _ _))
        go_wp2_with fail
        refine (FP.out).mono ?_
        rintro e w1 ⟨A1, n1, c1, rfl, g1⟩
        have B1 := Lib.hid (HW.out.trans (g1.2.2.mono HW.out.size))
        have BW1 := Lib.hid g1.2.2
        have G1 := Lib.hid g1
        clear g1 FP q0 q1 q2
        go_wp2_with fail
        refine (awake_true w1 (HT.out _ B1.out)).mono ?_
        rintro e wz ⟨rfl, bz⟩
        go_wp2
        go_ret
        exact ⟨rfl, B1.out.trans (bz.mono B1.out.size)⟩
  · rw [hg] at CG
    clear hr hT hg
    go_enter Tryd.func8, Tryd.ntmps8
    go_wp2_with fail
    refine (CG.out).mono ?_
    rintro e w0 ⟨rfl, rfl⟩
    clear CG
    go_wp2_with fail
    refine (awake_true W (HT.out _ HW.out)).mono ?_
    rintro e wz ⟨rfl, bz⟩
    go_wp2
    go_ret
    exact ⟨rfl, HW.out.trans (bz.mono HW.out.size)⟩

end Go.Proofs.YtcljmmadimldlaaDoor
