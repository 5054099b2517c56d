/-
  The statement on scrolling out and back returns true.
-/
import Derived.Test.YtgmgnlgolhjhmaaDoorSbLaws
import Derived.Test.YtgmgnlgolhjhmaaDoorGrScroll
namespace Go.Proofs.YtgmgnlgolhjhmaaDoor
open Go.RowKit Go.Shelf Cr Gd

theorem ga_in (w : World) (W H : Int) (A : Option Addr) (n c : Nat) (f b g : Int) :
    Kg ((w.alloc (.cells #[.int .i64 W, .int .i64 H, .slice A n c] 35)).alloc (.cells #[.int .i64 f, .int .i64 b, .int .i64 g] 44)) w.heap.size W H A n c ∧
    ((w.alloc (.cells #[.int .i64 W, .int .i64 H, .slice A n c] 35)).alloc (.cells #[.int .i64 f, .int .i64 b, .int .i64 g] 44)).heap[w.heap.size + 1]? = some (.cells #[.int .i64 f, .int .i64 b, .int .i64 g] 44) ∧
    Below w.heap.size w ((w.alloc (.cells #[.int .i64 W, .int .i64 H, .slice A n c] 35)).alloc (.cells #[.int .i64 f, .int .i64 b, .int .i64 g] 44)) := by
  have h1 := Kg.new w W H A n c
  have b1 := (Below.refl w.heap.size w).alloc (Nat.le_refl _) (.cells #[.int .i64 W, .int .i64 H, .slice A n c] 35)
  have e1 : (w.alloc (.cells #[.int .i64 W, .int .i64 H, .slice A n c] 35)).heap.size = w.heap.size + 1 := by simp
  generalize w.alloc (.cells #[.int .i64 W, .int .i64 H, .slice A n c] 35) = w1 at h1 b1 e1 ⊢
  have h2 := heap_alloc_new w1 (.cells #[.int .i64 f, .int .i64 b, .int .i64 g] 44)
  have b2 := (Below.refl w1.heap.size w1).alloc (Nat.le_refl _) (.cells #[.int .i64 f, .int .i64 b, .int .i64 g] 44)
  rw [e1] at h2
  exact ⟨h1.below b2, h2, b1.trans (b2.mono b1.size)⟩
/-- A rendition lies in the block k. -/
def Ka (w : World) (k : Nat) (f b g : Int) : Prop := w.heap[k]? = some (.cells #[.int .i64 f, .int .i64 b, .int .i64 g] 44)
theorem Ka.below {w w' : World} {k : Nat} {f b g : Int} (h : Ka w k f b g) (hb : Below w.heap.size w w') : Ka w' k f b g := (hb.block k (Array.getElem?_eq_some_iff.1 h).1).trans h
theorem Ka.c0 {w : World} {k : Nat} {f b g : Int} (h : Ka w k f b g) : w.cell? ⟨k, 0, none⟩ = some (.int .i64 f) := cell_of_row w k 0 _ _ _ h
theorem Ka.c1 {w : World} {k : Nat} {f b g : Int} (h : Ka w k f b g) : w.cell? ⟨k, 1, none⟩ = some (.int .i64 b) := cell_of_row w k 1 _ _ _ h
theorem Ka.c2 {w : World} {k : Nat} {f b g : Int} (h : Ka w k f b g) : w.cell? ⟨k, 2, none⟩ = some (.int .i64 g) := cell_of_row w k 2 _ _ _ h
theorem right_ok {W H : Int} {L : List (List C)} (h : ¬ (greatR L = true ∨ gE W H L ≠ 0)) : greatR L = false ∧ gE W H L = 0 := by
  refine ⟨?_, ?_⟩
  · cases e : greatR L
    · rfl
    · exact absurd (.inl e) h
  · by_cases e : gE W H L = 0
    · exact e
    · exact absurd (.inr e) h

/-- What was scrolled out and pushed is seen again. -/
theorem win_back {L G : List (List C)} {v h m : Nat} (g : Gd.Good v h G) (hm : m ≤ h) (c : Int) : winR (L ++ Gd.out G 0 m) (v : Int) (h : Int) (scr G 0 h m 0 (blanks v c)) (m : Int) = ⟨0, v, h, G, []⟩ := by
  have hl : G.length = h := g.2.2.2.2.1
  have hh := g.2.2.1
  have hs := g.scr (t := 0) (b := h) (u := m) (d := 0) c (by omega) (Nat.le_refl _) (by omega)
  have e1 : scr G 0 h m 0 (blanks v c) = G.drop m ++ List.replicate m (blanks v c) := by
    unfold scr
    simp only [List.take_zero, List.replicate_zero, List.nil_append, Nat.zero_add, Nat.sub_zero]
    have t1 : (G.drop m).take (h - m) = G.drop m := List.take_of_length_le (by rw [List.length_drop]; omega)
    have t2 : G.drop h = [] := List.drop_of_length_le (by omega)
    rw [t1, t2, List.append_nil]
  have e2 : Gd.out G 0 m = G.take m := by unfold Gd.out; rw [List.drop_zero]
  have hlt : (G.take m).length = m := by rw [List.length_take]; omega
  have hsee : Sb.seen (L ++ G.take m) (h : Int) (m : Int) = G.take m := by
    unfold Sb.seen
    rw [List.length_append, hlt, show L.length + m - ((m : Int)).toNat = L.length by omega, List.drop_left, List.take_of_length_le (by omega)]
  have hfit : ∀ x ∈ G, fit x v = x := fun x hx => by
    have h2 := g.2.2.2.2.2 _ hx
    rw [← h2.1]; exact fit_self h2.2
  have hb := Sb.rows_back (fun l => fit l v) L G (List.replicate m (blanks v c)) (h : Int) m (by omega) (by omega) hfit (by simp)
  have h0 : Sb.errs check (G.take m) = 0 := (Sb.errs_zero check _).2 (fun x hx => g.chk (List.mem_of_mem_take hx))
  unfold winR
  rw [good_gE hs, if_neg (by omega), e2, if_neg (by rw [List.length_append, hlt]; omega), hsee, h0, if_neg (by omega), e1, Int.toNat_natCast, hb]

set_option maxHeartbeats 4000000 in
set_option maxRecDepth 100000 in
theorem cont_walk (A : Option Addr) (n c : Nat) (L : List (List C)) (W H : Int) (A2 : Option Addr) (n2 c2 : Nat) (G : List (List C)) (x1 : Int) (f b g : Int) (w : World) (hr : RdR w A n L) (_hnc : n ≤ c) (_hmax : n ≤ 9223372036854775807) (hnil : A = none → n = 0 ∧ c = 0) (hr2 : RdR w A2 n2 G) (hnc2 : n2 ≤ c2) (hmax2 : n2 ≤ 9223372036854775807) (a1 : 0 ≤ x1) (b1 : x1 ≤ 255) (hT : Lib.Utf8Tabs 0 1 w) :
    Calls Tryd.prog 9 #[.slice A n c, .agg #[.int .i64 W, .int .i64 H, .slice A2 n2 c2], .int .u8 x1, .agg #[.int .i64 f, .int .i64 b, .int .i64 g]] w fun e w' => e = .returned (.bool true) ∧ Below w.heap.size w w' := by
  obtain ⟨V, hV⟩ : ∃ V, (w.alloc (.cells #[.int .i64 W, .int .i64 H, .slice A2 n2 c2] 35)).alloc (.cells #[.int .i64 f, .int .i64 b, .int .i64 g] 44) = V := ⟨_, rfl⟩
  obtain ⟨k1, kA, bV⟩ := ga_in w W H A2 n2 c2 f b g
  rw [hV] at k1 kA bV
  have K1 := Lib.hid k1
  have KA : Hid (Ka V (w.heap.size + 1) f b g) := Lib.hid kA
  have BV := Lib.hid bV
  have HR := Lib.hid (fun U (h : Below V.heap.size V U) => hr.below (bV.trans (h.mono bV.size)))
  have HR2 := Lib.hid (fun U (h : Below V.heap.size V U) => hr2.below (bV.trans (h.mono bV.size)))
  have HT := Lib.hid (fun U (h : Below V.heap.size V U) => Utf8Tabs_below hT (bV.trans (h.mono bV.size)))
  have CG := Lib.hid (greatS_any A n c L V (hr.below bV))
  have CR := Lib.hid (right_any W H A2 n2 c2 G V (hr2.below bV) hmax2)
  have CW := Lib.hid (fun U (hu : Below V.heap.size V U) => awake_true U (HT.out U hu))
  have hlL : L.length = n := hr.1
  have p0 := k1.c0
  have p1 := k1.c1
  have p2 := k1.c2
  clear hr hT k1 kA bV
  cases hg : greatS L
  · rw [hg, if_neg (by decide)] at CG
    by_cases hq : greatR G = true ∨ gE W H G ≠ 0
    · rw [if_pos hq] at CR
      clear hq hg hnil hnc2 hmax2 hlL hr2
      subst hV
      go_enter Tryd.func9, Tryd.ntmps9
      go_wp2_with fail
      refine CG.out.mono ?_
      rintro e v0 ⟨rfl, rfl⟩
      go_wp2_with fail
      refine CR.out.mono ?_
      rintro e w1 ⟨rfl, b1⟩
      have CW1 := Lib.hid (CW.out w1 b1)
      have B1 := Lib.hid (BV.out.trans (b1.mono BV.out.size))
      clear b1
      go_wp2_with fail
      refine CW1.out.mono ?_
      rintro e w2 ⟨rfl, b2⟩
      have B2 := Lib.hid (B1.out.trans (b2.mono B1.out.size))
      clear b2
      go_wp2
      go_ret
      exact ⟨rfl, B2.out⟩
    · rw [if_neg hq] at CR
      obtain ⟨hgr, hgE⟩ := right_ok hq
      obtain ⟨hl10, hsm2, _⟩ := greatR_false hgr
      obtain ⟨hl12, hsm, hlen⟩ := greatS_false hg
      have hz : Sz L := fun l hl => by have := hlen l hl; omega
      obtain ⟨v, h, rfl, rfl, hgood⟩ := gE_good hgE
      have hGh : G.length = h := hgood.2.2.2.2.1
      have hnh : n2 = h := by have := hr2.1; omega
      subst hnh
      have hh1 : 1 ≤ n2 := hgood.2.2.1
      have hzG : Sz G := fun l hl => by have := hgood.2.2.2.2.2 l hl; have := hgood.2.1; omega
      obtain ⟨y, rfl⟩ : ∃ y : Nat, x1 = (y : Int) := ⟨x1.toNat, by omega⟩
      obtain ⟨h1, hh⟩ : ∃ h1, n2 + 1 = h1 := ⟨_, rfl⟩
      obtain ⟨m, hm⟩ : ∃ m, y % h1 = m := ⟨_, rfl⟩
      have hmh : m < h1 := by rw [← hm]; exact Nat.mod_lt _ (by omega)
      have i2 : (n2 : Int) + 1 = (h1 : Int) := by omega
      have i3 : (y : Int).tmod (h1 : Int) = (m : Int) := by rw [← hm]; exact (Int.ofNat_tmod y h1).symm
      have z1 : ¬ (h1 : Int) = 0 := by omega
      have z3 : ((h1 : Int) == 0) = false := by simpa using z1
      have z4 : ¬ (h1 : Int) = -1 := by omega
      have v1 : IntKind.i64.wrap (y : Int) = (y : Int) := by rw [IntKind.wrap_i64]; omega
      have v2 : IntKind.i64.wrap (m : Int) = (m : Int) := by rw [IntKind.wrap_i64]; omega
      have hn10 : (n2 : Int) ≤ 10 := by omega
      have hn10b : (h1 : Int) ≤ 11 := by omega
      have E1 := scrollR_up hgood (t := 0) (b := n2) (m := m) (by omega) (Nat.le_refl _) (by omega) b
      have CS := Lib.hid (fun U (hu : Below V.heap.size V U) => gscroll_any (v : Int) (n2 : Int) A2 n2 c2 G 0 (n2 : Int) (m : Int) f b g U (HR2.out U hu) hnc2 hmax2 hsm2 (HT.out U hu))
      rw [show scrollR (v : Int) (n2 : Int) G 0 (n2 : Int) (m : Int) b = _ from E1] at CS
      have hwb := win_back (L := L) hgood (show m ≤ n2 by omega) b
      have hol := out_length (L := G) (t := 0) (b := n2) (u := m) (by omega) (by omega) (by omega)
      have hsl := (hgood.scr (t := 0) (b := n2) (u := m) (d := 0) b (by omega) (Nat.le_refl _) (by omega)).2.2.2.2.1
      have hzo : Sz (Gd.out G 0 m) := fun l hl => hzG l (List.mem_of_mem_drop (List.mem_of_mem_take hl))
      have hso : SmR (L ++ Gd.out G 0 m) := hsm.app (fun l hl => hsm2 l (List.mem_of_mem_drop (List.mem_of_mem_take hl)))
      have hss := hsm2.scr 0 n2 m 0 v b
      have hpu : Sb.push L (Gd.out G 0 m) = L ++ Gd.out G 0 m := Sb.push_small L _ (by omega)
      have CPU := Lib.hid (fun (B3 : Option Addr) (e3 : Nat) U (hU : Below w.heap.size w U) (hrB : RdR U B3 m (Gd.out G 0 m)) (hnB : B3 = none → m = 0 ∧ e3 = 0) (hrL : RdR U A n L) => push_any A B3 n c m e3 L (Gd.out G 0 m) (by omega) hnil hnB U hrL hrB hz hzo)
      rw [hpu] at CPU
      have hPl : (L ++ Gd.out G 0 m).length = n + m := by rw [List.length_append, hlL, hol]
      obtain ⟨K, hK⟩ : ∃ K, n + m = K := ⟨_, rfl⟩
      rw [hK] at hPl
      have hK60 : K ≤ 60 := by omega
      generalize L ++ Gd.out G 0 m = P at CPU hwb hso hPl
      rw [hPl] at CPU
      generalize Gd.out G 0 m = O at CS CPU hol
      generalize scr G 0 n2 m 0 (blanks v b) = X at CS hwb hsl hss
      have CWW := Lib.hid (fun (A6 : Option Addr) (d6 : Nat) (A3 : Option Addr) (c3 : Nat) U (hr6 : RdR U A6 K P) (hd6 : K ≤ d6) (hnn : A6 = none → d6 = 0) (hrx : RdR U A3 n2 X) (hc3 : n2 ≤ c3) (hTU : Lib.Utf8Tabs 0 1 U) => window_any A6 K d6 P (v : Int) (n2 : Int) A3 n2 c3 X (m : Int) U hr6 hd6 (by omega) hnn hrx hc3 hmax2 hso hss hTU)
      rw [hwb] at CWW
      have HZG := Lib.hid hzG
      have HOL := Lib.hid hol
      have HSL := Lib.hid hsl
      have H60 := Lib.hid (show n2 ≤ 1000 by omega)
      have a0 := KA.out.c0
      have a1' := KA.out.c1
      have a2 := KA.out.c2
      clear hq hg hgr hgE hl10 hsm2 hl12 hsm hlen hz hgood hGh hzG hh hm E1 hwb hol hsl hzo hso hss hpu hPl hK hlL hnil hr2
      subst hV
      go_enter Tryd.func9, Tryd.ntmps9
      go_wp2_with fail
      refine CG.out.mono ?_
      rintro e v0 ⟨rfl, rfl⟩
      go_wp2_with fail
      refine CR.out.mono ?_
      rintro e w1 ⟨rfl, d1⟩
      have D1 := Lib.hid d1
      have CS1 := Lib.hid (CS.out w1 d1)
      clear p0 p1 p2 a0 a1' a2 CR CS
      have p0 := (K1.out.below d1).c0
      have p1 := (K1.out.below d1).c1
      have p2 := (K1.out.below d1).c2
      have a0 := (KA.out.below d1).c0
      have a1' := (KA.out.below d1).c1
      have a2 := (KA.out.below d1).c2
      clear d1
      go_wp2_with fail
      refine CS1.out.mono ?_
      rintro e' w3 ⟨A3, n3, c3, B3, m3, e3, rfl, g3x, g3', b3'⟩
      have hn3 : n2 = n3 := HSL.out.symm.trans g3x.1.1
      have hm3 : m = m3 := HOL.out.symm.trans g3'.1.1
      subst hn3 hm3
      obtain ⟨V5, hV5⟩ : ∃ V5, w3.alloc (.cells #[.int .i64 (v : Int), .int .i64 (n2 : Int), .slice A3 n2 c3] 35) = V5 := ⟨_, rfl⟩
      have bx : Below w3.heap.size w3 V5 := by rw [← hV5]; exact (Below.refl _ _).alloc (Nat.le_refl _) _
      have d5 := D1.out.trans ((b3'.trans (bx.mono b3'.size)).mono D1.out.size)
      have D5 := Lib.hid d5
      obtain ⟨kx, hkx⟩ : ∃ kx, w3.heap.size = kx := ⟨_, rfl⟩
      have KV : Hid (Kg V5 kx (v : Int) (n2 : Int) A3 n2 c3) := Lib.hid (by rw [← hV5, ← hkx]; exact Kg.new w3 _ _ _ _ _)
      have BW := Lib.hid (BV.out.trans (d5.mono BV.out.size))
      have KG5 := Lib.hid (K1.out.below d5)
      have G5 := Lib.hid (g3x.below bx)
      have O5 := Lib.hid (g3'.below bx)
      have CP5 := Lib.hid (fun U (hU : Below V5.heap.size V5 U) => CPU.out B3 e3 U (BW.out.trans (hU.mono BW.out.size)) (O5.out.1.below hU) O5.out.2.1.1 (HR.out U (D5.out.trans (hU.mono D5.out.size))))
      have CWN := Lib.hid (fun (A6 : Option Addr) (d6 : Nat) U (hU : Below V5.heap.size V5 U) (hr6 : RdR U A6 K P) (hd6 : K ≤ d6) (hnn : A6 = none → d6 = 0) => CWW.out A6 d6 A3 c3 U hr6 hd6 hnn (G5.out.1.below hU) G5.out.2.1.2 (HT.out U (D5.out.trans (hU.mono D5.out.size))))
      clear g3x g3' b3' bx d5 p0 p1 p2 a0 a1' a2 CS1 CPU CWW
      go_upto_region 5 with fail
      clear hV5 hkx
      have p0 := KV.out.c0
      have p1 := KV.out.c1
      have p2 := KV.out.c2
      have bz := (Below.refl V5.heap.size V5).alloc (Nat.le_refl _) (.cells #[.int .i64 0, .int .i64 0, .slice none 0 0] 35)
      have z0 := (KV.out.below bz).c0
      have z1 := (KV.out.below bz).c1
      have z2 := (KV.out.below bz).c2
      have BZ := Lib.hid bz
      have KZ := Lib.hid (Kg.new V5 0 0 none 0 0)
      have CPa := Lib.hid (CP5.out V5.drew (Below.refl _ _).drew)
      have CPb := Lib.hid (CP5.out (V5.alloc (.cells #[.int .i64 0, .int .i64 0, .slice none 0 0] 35)).drew bz.drew)
      clear bz
      go_cut [13, 14] (fun v2 v3 wx => v3 = .int .i64 0 ∧ ∃ k, v2 = .pointer (some ⟨k, 0, none⟩) ∧ Aside (Vw V5 wx k ⟨0, (v : Int), (n2 : Int), G, []⟩))
      case first =>
        go_region_law (first
          | (go_simp; refine CPa.out.mono ?_; rintro e' w6 ⟨A6, d6, rfl, g6⟩; have b6 := ((Below.refl V5.heap.size V5).drew).trans (g6.bel); have bx6 := (Below.refl w6.heap.size w6).alloc (Nat.le_refl _) (.cells #[.int .i64 0, .int .i64 0, .slice none 0 0] 35); have b6x := b6.trans (bx6.mono b6.size); have u0 := (KV.out.below b6).c0; have u1 := (KV.out.below b6).c1; have u2 := (KV.out.below b6).c2; have y0 := (KV.out.below b6x).c0; have y1 := (KV.out.below b6x).c1; have y2 := (KV.out.below b6x).c2; have CWa := Lib.hid ((fun U (hU : Below V5.heap.size V5 U) (hr6 : RdR U A6 K P) => CWN.out A6 d6 U hU hr6 g6.rd.2.2.1 (fun e => (g6.rd.2.1 e).2)) w6 b6 g6.rd.1); have CWc := Lib.hid ((fun U (hU : Below V5.heap.size V5 U) (hr6 : RdR U A6 K P) => CWN.out A6 d6 U hU hr6 g6.rd.2.2.1 (fun e => (g6.rd.2.1 e).2)) (w6.alloc (.cells #[.int .i64 0, .int .i64 0, .slice none 0 0] 35)) b6x (g6.rd.1.alloc _)); have B6 := Lib.hid b6; have B6X := Lib.hid b6x; have K6 := Lib.hid (Kg.new w6 0 0 none 0 0); have L6 : Hid (w6.heap.size < (w6.alloc (.cells #[.int .i64 0, .int .i64 0, .slice none 0 0] 35)).heap.size) := Lib.hid (by simp); have GE6 := Lib.hid b6.size; clear g6 b6 b6x bx6)
          | (go_simp; refine CPb.out.mono ?_; rintro e' w6 ⟨A6, d6, rfl, g6⟩; have b6 := (BZ.out.drew).trans (g6.bel.mono BZ.out.drew.size); have u0 := (KV.out.below b6).c0; have u1 := (KV.out.below b6).c1; have u2 := (KV.out.below b6).c2; have k6 := (KZ.out.below ((Below.refl _ _).drew)).below g6.bel; have CWb := Lib.hid ((fun U (hU : Below V5.heap.size V5 U) (hr6 : RdR U A6 K P) => CWN.out A6 d6 U hU hr6 g6.rd.2.2.1 (fun e => (g6.rd.2.1 e).2)) w6 b6 g6.rd.1); have B6 := Lib.hid b6; have K6 := Lib.hid k6; have L6 := Lib.hid k6.lt; have GE6 : Hid (V5.heap.size ≤ V5.heap.size) := Lib.hid (Nat.le_refl _); clear g6 b6 k6)
          | (go_simp; refine CWb.out.mono ?_; rintro e' w7 ⟨A7, n7, c7, rfl, g7, b7⟩; have k7 := K6.out.below b7; have q0 := k7.c0; have q1 := k7.c1; have q2 := k7.c2; have qz := k7.z; have FF := Lib.hid (vw_early (V := V5) (R := ⟨0, (v : Int), (n2 : Int), G, []⟩) (k := V5.heap.size) g7 (B6.out.trans (b7.mono B6.out.size)) k7 L6.out GE6.out); clear g7 b7 k7)
          | (go_simp; refine CWa.out.mono ?_; rintro e' w7 ⟨A7, n7, c7, rfl, g7, b7⟩; have FF := Lib.hid (vw_late (V := V5) (R := ⟨0, (v : Int), (n2 : Int), G, []⟩) g7 (B6.out.trans (b7.mono B6.out.size))); clear g7 b7)
          | (go_simp; refine CWc.out.mono ?_; rintro e' w7 ⟨A7, n7, c7, rfl, g7, b7⟩; have k7 := K6.out.below b7; have q0 := k7.c0; have q1 := k7.c1; have q2 := k7.c2; have qz := k7.z; have FF := Lib.hid (vw_early (V := V5) (R := ⟨0, (v : Int), (n2 : Int), G, []⟩) (k := w6.heap.size) g7 (B6X.out.trans (b7.mono B6X.out.size)) k7 L6.out GE6.out); clear g7 b7 k7))
        all_goals
          go_wp2
          go_meet
          exact ⟨rfl, _, rfl, FF.out⟩
      case rest =>
        obtain ⟨rfl, ky, rfl, hF⟩ := hcut
        obtain ⟨A9, n9, c9, hk9, hr9, hb9⟩ := hF.out
        have hn9 : n2 = n9 := by have h1 := hr9.1; have h2 := G5.out.1.1; have := (HR2.out V5 D5.out).1; simp only at h1; omega
        subst hn9
        have q0 := hk9.c0
        have q1 := hk9.c1
        have q2 := hk9.c2
        have s0 := (KG5.out.below hb9).c0
        have s1 := (KG5.out.below hb9).c1
        have s2 := (KG5.out.below hb9).c2
        have D9 := Lib.hid (D5.out.trans (hb9.mono D5.out.size))
        have SM := Lib.hid (same_g (v : Int) (n2 : Int) A9 A2 n2 n2 c9 c2 G wc hr9 (HR2.out wc D9.out) H60.out HZG.out)
        clear hF hk9 hr9 hb9 p0 p1 p2 z0 z1 z2
        go_wp2_with fail
        refine SM.out.mono ?_
        rintro e' w10 ⟨rfl, b10⟩
        have D10 := Lib.hid (D9.out.trans (b10.mono D9.out.size))
        have CW10 := Lib.hid (CW.out w10 D10.out)
        clear b10 SM q0 q1 q2 s0 s1 s2
        go_wp2_with fail
        refine CW10.out.mono ?_
        rintro e' w11 ⟨rfl, b11⟩
        have B11 := Lib.hid (BV.out.trans ((D10.out.trans (b11.mono D10.out.size)).mono BV.out.size))
        clear b11
        go_wp2
        go_ret
        exact ⟨rfl, B11.out⟩
  · rw [hg, if_pos rfl] at CG
    have CW1 := Lib.hid (CW.out V (Below.refl _ _))
    clear hg hnil hnc2 hmax2 hlL hr2 CR
    subst hV
    go_enter Tryd.func9, Tryd.ntmps9
    go_wp2_with fail
    refine CG.out.mono ?_
    rintro e v0 ⟨rfl, rfl⟩
    go_wp2_with fail
    refine CW1.out.mono ?_
    rintro e w2 ⟨rfl, b2⟩
    have B2 := Lib.hid (BV.out.trans (b2.mono BV.out.size))
    clear b2
    go_wp2
    go_ret
    exact ⟨rfl, B2.out⟩

end Go.Proofs.YtgmgnlgolhjhmaaDoor
