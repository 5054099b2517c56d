/-
  The statement on scrolling back by one row more returns true.
-/
import Derived.Test.YtgmgnlgolhjhmaaDoorSbBigC
namespace Go.Proofs.YtgmgnlgolhjhmaaDoor
open Go.RowKit Go.Shelf Cr Gd

theorem all_ok {L : List (List C)} (h : L.all (fun l => check l == 0) = true) : ∀ y ∈ L, check y = 0 := fun y hy => by
  have := List.all_eq_true.1 h y hy
  simpa using this
/-- The window's rows after scrolling back by j. -/
def mvX (L G : List (List C)) (v h j : Nat) : List (List C) := Sb.rows (fun y => fit y v) L G (h : Int) (j : Int)
theorem mvX_zero {L G : List (List C)} {v h : Nat} (hG : G.length = h) : mvX L G v h 0 = G := Sb.rows_zero _ _ _ _ (by omega)
theorem mvX_length {L G : List (List C)} {v h j : Nat} (hG : G.length = h) (hj : j ≤ L.length) : (mvX L G v h j).length = h := by
  have := Sb.rows_length (fun y => fit y v) L G (h : Int) (j : Int) (by omega) (by omega) (by omega)
  unfold mvX
  omega
theorem mvX_step {L G : List (List C)} {v h p k j : Nat} (hG : G.length = h) (hp : p + 1 = h) (hk : k < L.length) (hj : j = k + 1) : mvX L G v h j = fit (lineL L (k : Int)) v :: (mvX L G v h k).take p := by
  subst hj
  have e := Sb.rows_step (fun y => fit y v) L G (h : Int) k (by omega) (by omega) hk _ (lineL_at (L := L) (k := k) hk)
  unfold mvX
  rw [show ((k + 1 : Nat) : Int) = (k : Int) + 1 by omega, e, show ((h : Int) - 1).toNat = p by omega]
theorem mvX_sz {L G : List (List C)} {v h j : Nat} (hv : v ≤ 132) (hz : Sz G) : Sz (mvX L G v h j) := fun x hx => by
  unfold mvX Sb.rows at hx
  rcases List.mem_append.1 hx with hx | hx
  · obtain ⟨y, _, rfl⟩ := List.mem_map.1 hx
    rw [fit_length]; omega
  · exact hz x (List.mem_of_mem_take hx)
theorem right_good {W H : Int} {L : List (List C)} (h : ¬ (greatR L = true ∨ gE W H L ≠ 0)) : greatR L = false ∧ gE W H L = 0 := by
  refine ⟨?_, ?_⟩
  · cases e : greatR L
    · rfl
    · exact absurd (.inl e) h
  · by_cases e : gE W H L = 0
    · exact e
    · exact absurd (.inr e) h

set_option maxHeartbeats 4000000 in
set_option maxRecDepth 100000 in
theorem moves_walk (A : Option Addr) (n c : Nat) (L : List (List C)) (W H : Int) (A2 : Option Addr) (n2 c2 : Nat) (G : List (List C)) (w : World) (hr : RdR w A n L) (hnc : n ≤ c) (hmax : n ≤ 9223372036854775807) (hnil : A = none → n = 0 ∧ c = 0) (hs : ∀ l ∈ L, ∀ x ∈ l, x.t.size ≤ 1048576) (hr2 : RdR w A2 n2 G) (hnc2 : n2 ≤ c2) (hmax2 : n2 ≤ 9223372036854775807) (hT : Lib.Utf8Tabs 0 1 w) :
    Calls Tryd.prog 8 #[.slice A n c, .agg #[.int .i64 W, .int .i64 H, .slice A2 n2 c2]] w fun e w' => e = .returned (.bool true) ∧ Below w.heap.size w w' := by
  obtain ⟨V, hV⟩ : ∃ V, w.alloc (.cells #[.int .i64 W, .int .i64 H, .slice A2 n2 c2] 35) = V := ⟨_, rfl⟩
  have bV : Below w.heap.size w V := by rw [← hV]; exact (Below.refl _ _).alloc (Nat.le_refl _) _
  have k1 : Kg V w.heap.size W H A2 n2 c2 := by rw [← hV]; exact heap_alloc_new w _
  have K1 := Lib.hid k1
  have BV := Lib.hid bV
  have HR := Lib.hid (fun U (h : Below V.heap.size V U) => hr.below (bV.trans (h.mono bV.size)))
  have HR2 := Lib.hid (fun U (h : Below V.heap.size V U) => hr2.below (bV.trans (h.mono bV.size)))
  have HT := Lib.hid (fun U (h : Below V.heap.size V U) => Utf8Tabs_below hT (bV.trans (h.mono bV.size)))
  have CP := Lib.hid (proper_any A n c L V (hr.below bV) hmax hs)
  have CR := Lib.hid (fun U (hu : Below V.heap.size V U) => right_any W H A2 n2 c2 G U (HR2.out U hu) hmax2)
  have CW := Lib.hid (fun U (hu : Below V.heap.size V U) => awake_true U (HT.out U hu))
  have hlL : L.length = n := hr.1
  clear hr hT k1 bV hs
  obtain ⟨P, hP⟩ : ∃ P, (L.all (fun l => check l == 0) && !greatS L) = P := ⟨_, rfl⟩
  rw [hP] at CP
  cases P
  · clear hP hnil hnc hnc2 hmax hmax2 hlL hr2 CR
    subst hV
    go_enter Tryd.func8, Tryd.ntmps8
    go_wp2_with fail
    refine CP.out.mono ?_
    rintro e w1 ⟨rfl, b1⟩
    have CW1 := Lib.hid (CW.out w1 b1)
    have B1 := Lib.hid (BV.out.trans (b1.mono BV.out.size))
    clear b1
    go_wp2_with fail
    refine CW1.out.mono ?_
    rintro e w2 ⟨rfl, b2⟩
    have B2 := Lib.hid (B1.out.trans (b2.mono B1.out.size))
    clear b2
    go_wp2
    go_ret
    exact ⟨rfl, B2.out⟩
  · by_cases hq : greatR G = true ∨ gE W H G ≠ 0
    · rw [if_pos hq] at CR
      have p0 := K1.out.c0
      have p1 := K1.out.c1
      have p2 := K1.out.c2
      clear hq hP hnil hnc hnc2 hmax hmax2 hlL hr2
      subst hV
      go_enter Tryd.func8, Tryd.ntmps8
      go_wp2_with fail
      refine CP.out.mono ?_
      rintro e w1 ⟨rfl, d1⟩
      have D1 := Lib.hid d1
      have CR1 := Lib.hid (CR.out w1 d1)
      clear p0 p1 p2 CP CR
      have p0 := (K1.out.below d1).c0
      have p1 := (K1.out.below d1).c1
      have p2 := (K1.out.below d1).c2
      clear d1
      go_wp2_with fail
      refine CR1.out.mono ?_
      rintro e w2 ⟨rfl, b2⟩
      have D2 := Lib.hid (D1.out.trans (b2.mono D1.out.size))
      have CW2 := Lib.hid (CW.out w2 D2.out)
      clear b2 p0 p1 p2
      go_wp2_with fail
      refine CW2.out.mono ?_
      rintro e w3 ⟨rfl, b3⟩
      have B3 := Lib.hid (BV.out.trans ((D2.out.trans (b3.mono D2.out.size)).mono BV.out.size))
      clear b3
      go_wp2
      go_ret
      exact ⟨rfl, B3.out⟩
    · rw [if_neg hq] at CR
      rw [Bool.and_eq_true] at hP
      have hall := all_ok hP.1
      have hgS : greatS L = false := by simpa using hP.2
      obtain ⟨hgr, hgE⟩ := right_good hq
      obtain ⟨hl10, hsm2, _⟩ := greatR_false hgr
      obtain ⟨hl12, hsm, hlen⟩ := greatS_false hgS
      have hz : Sz L := fun l hl => by have := hlen l hl; omega
      obtain ⟨v, h, rfl, rfl, hgood⟩ := gE_good hgE
      have hGh : G.length = h := hgood.2.2.2.2.1
      have hnh : n2 = h := by have := hr2.1; omega
      subst hnh
      have hh1 : 1 ≤ n2 := hgood.2.2.1
      have hv132 := hgood.2.1
      have hv1 := hgood.1
      have hzG : Sz G := fun l hl => by have := hgood.2.2.2.2.2 l hl; omega
      obtain ⟨p, hp⟩ : ∃ p, p + 1 = n2 := ⟨n2 - 1, by omega⟩
      have hn10 : (n2 : Int) ≤ 10 := by omega
      have hn12 : (n : Int) ≤ 12 := by omega
      have hv0 : (v : Int) ≤ 132 := by omega
      have CWI : Hid (∀ (j : Nat), j ≤ n → ∀ U, Below V.heap.size V U → Calls Tryd.prog 22 #[.slice A n c, .agg #[.int .i64 (v : Int), .int .i64 (n2 : Int), .slice A2 n2 c2], .int .i64 (j : Int)] U fun e w' => ∃ A' n' c', e = .returned (.tuple #[.agg #[.int .i64 (v : Int), .int .i64 (n2 : Int), .slice A' n' c'], .int .i64 0]) ∧ Gv U w' A' n' c' (mvX L G v n2 j) ∧ Below U.heap.size U w') := Lib.hid (fun j hj U hu => by
        have h := window_any A n c L (v : Int) (n2 : Int) A2 n2 c2 G (j : Int) U (HR.out U hu) hnc hmax (fun e => (hnil e).2) (HR2.out U hu) hnc2 hmax2 hsm hsm2 (HT.out U hu)
        rw [win_rows hgood (by omega) hall] at h
        exact h)
      have CWZ : Hid (∀ U, Below V.heap.size V U → Calls Tryd.prog 22 #[.slice A n c, .agg #[.int .i64 (v : Int), .int .i64 (n2 : Int), .slice A2 n2 c2], .int .i64 0] U fun e w' => ∃ A' n' c', e = .returned (.tuple #[.agg #[.int .i64 (v : Int), .int .i64 (n2 : Int), .slice A' n' c'], .int .i64 0]) ∧ Gv U w' A' n' c' G ∧ Below U.heap.size U w') := Lib.hid (fun U hu => by
        have h := CWI.out 0 (Nat.zero_le _) U hu
        rw [mvX_zero hGh] at h
        exact h)
      have CLN : Hid (∀ (k : Nat), k < n → ∀ U, Below V.heap.size V U → Calls Tryd.prog 13 #[.slice A n c, .int .i64 (k : Int)] U fun e w' => ∃ A' m c', e = .returned (.tuple #[.slice A' m c', .int .i64 0]) ∧ GivesC U w' A' m c' (lineL L (k : Int))) := Lib.hid (fun k hk U hu => by
        have h := line_any A n c L (k : Int) (by omega) U (HR.out U hu) hz
        rw [show lineE L (k : Int) = 0 by unfold lineE; rw [if_pos (by omega)]] at h
        exact h)
      have CFT : Hid (∀ (k : Nat), k < n → ∀ (A' : Option Addr) (m c' : Nat) U, Rd U A' m (lineL L (k : Int)) → m ≤ 1000 ∧ Calls Tryd.prog 28 #[.slice A' m c', .int .i64 (v : Int)] U fun e w' => ∃ A'' n' c'', e = .returned (.slice A'' n' c'') ∧ GivesC U w' A'' n' c'' (fit (lineL L (k : Int)) v) ∧ Fr U A'') := Lib.hid (fun k hk A' m c' U hu => by
        have hm := List.mem_of_getElem? (lineL_at (L := L) (k := k) (by omega))
        have hlm := hlen _ hm
        have hm' : m ≤ 1000 := by have := hu.1; omega
        have h := reffit_any A' m c' _ (v : Int) U hu (by omega) (hsm _ hm)
        rw [show fitL (lineL L (k : Int)) (v : Int) = fit (lineL L (k : Int)) v by unfold fitL; rw [if_pos ⟨hall _ hm, by omega, by omega⟩, Int.toNat_natCast]] at h
        exact ⟨hm', h⟩)
      have XLEN : Hid (∀ (j : Nat), j ≤ n → (mvX L G v n2 j).length = n2) := Lib.hid (fun j hj => mvX_length hGh (by omega))
      have XSTEP : Hid (∀ (k j : Nat), j = k + 1 → k < n → mvX L G v n2 j = fit (lineL L (k : Int)) v :: (mvX L G v n2 k).take p) := Lib.hid (fun k j hj hk => mvX_step hGh hp (by omega) hj)
      have XSZ : Hid (∀ (j : Nat), Sz (mvX L G v n2 j)) := Lib.hid (fun j => mvX_sz (by omega) hzG)
      have XZ : Hid (mvX L G v n2 0 = G) := Lib.hid (mvX_zero hGh)
      have FLEN : Hid (∀ (x : List C) (m : Nat), (fit x v).length = m → m ≤ 1000) := Lib.hid (fun x m h => by rw [fit_length] at h; omega)
      have HZG := Lib.hid hzG
      have HGL := Lib.hid hGh
      have H60 := Lib.hid (show n2 ≤ 1000 by omega)
      have HH1 := Lib.hid hh1
      have HP := Lib.hid hp
      have zp : (n2 : Int) - 1 = (p : Int) := by omega
      have zp1 : (p : Int) ≤ 9 := by omega
      have zp2 : (0 : Int) ≤ (p : Int) := by omega
      have zn1 : (1 : Int) ≤ (n2 : Int) := by omega
      have zn0 : (0 : Int) < (n2 : Int) := by omega
      have zn2 : 0 < n2 := by omega
      have znp : n2 - 1 = p := by omega
      have zw : IntKind.i64.wrap (p : Int) = (p : Int) := by rw [IntKind.wrap_i64]; omega
      have p0 := K1.out.c0
      have p1 := K1.out.c1
      have p2 := K1.out.c2
      generalize hXX : mvX L G v n2 = X at CWI XLEN XSTEP XSZ XZ
      clear hXX hq hP hall hgS hgr hgE hl10 hsm2 hl12 hsm hlen hz hgood hGh hh1 hv132 hv1 hzG hp hnil hnc hnc2 hmax hmax2 hlL hr2
      subst hV
      go_enter Tryd.func8, Tryd.ntmps8
      go_wp2_with fail
      refine CP.out.mono ?_
      rintro e w1 ⟨rfl, d1⟩
      have D1 := Lib.hid d1
      have CR1 := Lib.hid (CR.out w1 d1)
      clear p0 p1 p2 CP CR
      have p0 := (K1.out.below d1).c0
      have p1 := (K1.out.below d1).c1
      have p2 := (K1.out.below d1).c2
      clear d1
      go_wp2_with fail
      refine CR1.out.mono ?_
      rintro e w2 ⟨rfl, b2⟩
      have d2 := D1.out.trans (b2.mono D1.out.size)
      have D2 := Lib.hid d2
      have CW0 := Lib.hid (CWZ.out w2 d2)
      clear b2 p0 p1 p2 CWZ CR1
      have p0 := (K1.out.below d2).c0
      have p1 := (K1.out.below d2).c1
      have p2 := (K1.out.below d2).c2
      clear d2
      go_wp2_with fail
      refine CW0.out.mono ?_
      rintro e w3 ⟨A3, n3, c3, rfl, g3x, b3⟩
      have hn3 : n2 = n3 := HGL.out.symm.trans g3x.1.1
      subst hn3
      have hc3 := Lib.hid g3x.2.1.2
      obtain ⟨U3, hU3⟩ : ∃ U3, w3.alloc (.cells #[.int .i64 (v : Int), .int .i64 (n2 : Int), .slice A3 n2 c3] 35) = U3 := ⟨_, rfl⟩
      have bx : Below w3.heap.size w3 U3 := by rw [← hU3]; exact (Below.refl _ _).alloc (Nat.le_refl _) _
      have dw3 := D2.out.trans (b3.mono D2.out.size)
      have d3 := dw3.trans (bx.mono dw3.size)
      have DW3 := Lib.hid dw3
      have D3 := Lib.hid d3
      obtain ⟨kx, hkx⟩ : ∃ kx, w3.heap.size = kx := ⟨_, rfl⟩
      have KX : Hid (Kg U3 kx (v : Int) (n2 : Int) A3 n2 c3) := Lib.hid (by rw [← hU3, ← hkx]; exact Kg.new w3 _ _ _ _ _)
      have BX3 : Hid (Below kx w3 U3) := Lib.hid (by rw [← hkx]; exact bx)
      have ge := dw3.size
      rw [hkx] at ge
      have GE := Lib.hid ge
      have G3 := Lib.hid (g3x.below bx)
      have SM := Lib.hid (same_g (v : Int) (n2 : Int) A3 A2 n2 n2 c3 c2 G U3 (g3x.below bx).1 (HR2.out U3 d3) H60.out HZG.out)
      clear g3x b3 bx dw3 ge p0 p1 p2 CW0
      have p0 := (K1.out.below d3).c0
      have p1 := (K1.out.below d3).c1
      have p2 := (K1.out.below d3).c2
      have q0 := KX.out.c0
      have q1 := KX.out.c1
      have q2 := KX.out.c2
      clear d3
      go_wp2_with fail
      refine SM.out.mono ?_
      rintro e w4 ⟨rfl, b4⟩
      have K4 := Lib.hid (KX.out.below b4)
      have R4 := Lib.hid (G3.out.1.below b4)
      have B4 := Lib.hid (BX3.out.trans (b4.mono (Nat.le_trans (Nat.le_of_lt KX.out.lt) (Nat.le_refl _))))
      clear hU3 hkx b4 SM p0 p1 p2 q0 q1 q2
      go_wp2
      go_loopg [7, 8, 9, 10, 11] (n + 1) (fun gk v7 _ _ _ _ wr => ∃ k j : Nat, j = k + 1 ∧ gk + k = n + 1 ∧ k ≤ n ∧ v7 = .int .i64 (j : Int) ∧ Aside (∃ A7 c7, Kg wr kx (v : Int) (n2 : Int) A7 n2 c7 ∧ RdR wr A7 n2 (X k) ∧ n2 ≤ c7 ∧ Below kx w3 wr))
      case atStart => exact ⟨0, 1, rfl, by omega, Nat.zero_le _, rfl, A3, c3, K4.out, by rw [XZ.out]; exact R4.out, hc3.out, B4.out⟩
      case round =>
        obtain ⟨k, j, hjk, hgk, hkn, rfl, hA⟩ := hrel
        obtain ⟨A7, c7, k7, r7, h7, b7⟩ := hA.out
        have du := DW3.out.trans (b7.mono GE.out)
        by_cases hlt : j ≤ n
        · obtain ⟨gf, rfl⟩ : ∃ gf, gk = gf + 1 := ⟨gk - 1, by omega⟩
          have z1 : (j : Int) ≤ (n : Int) := by omega
          have z2 : (j : Int) - 1 = (k : Int) := by omega
          have z3 : (k : Int) ≤ 12 := by omega
          have z4 : (j : Int) ≤ 12 := by omega
          have CWx := Lib.hid (CWI.out j hlt wr du)
          obtain ⟨b7', o7, rfl⟩ := r7.addr HH1.out
          have p0 := (K1.out.below du).c0
          have p1 := (K1.out.below du).c1
          have p2 := (K1.out.below du).c2
          have K7 := Lib.hid k7
          have R7 := Lib.hid r7
          have H7 := Lib.hid h7
          have B7 := Lib.hid b7
          have DU := Lib.hid du
          have XL := Lib.hid (XLEN.out j hlt)
          have XS := Lib.hid (XSTEP.out k j hjk (by omega))
          have CLk := Lib.hid (CLN.out k (by omega))
          have CFk := Lib.hid (CFT.out k (by omega))
          have HJK := Lib.hid hjk
          have HZk := Lib.hid (XSZ.out k)
          have HZj := Lib.hid (XSZ.out j)
          obtain ⟨Y, hY⟩ : ∃ Y, X j = Y := ⟨_, rfl⟩
          rw [hY] at CWx XL XS HZj
          have HY := Lib.hid hY
          obtain ⟨fx, hfx⟩ : ∃ fx, fit (lineL L (k : Int)) v = fx := ⟨_, rfl⟩
          rw [hfx] at XS CFk
          have FX : Hid (∀ m, fx.length = m → m ≤ 1000) := Lib.hid (by rw [← hfx]; exact FLEN.out _)
          generalize lineL L (k : Int) = x at CLk CFk hfx
          clear hA k7 r7 h7 b7 du hjk hY hfx
          go_wp2_with fail
          refine CWx.out.mono ?_
          rintro e w5 ⟨A8, n8, c8, rfl, g8, b8⟩
          have hn8 : n2 = n8 := XL.out.symm.trans g8.1.1
          subst hn8
          obtain ⟨b8', o8, rfl⟩ := g8.1.addr HH1.out
          obtain ⟨U5, hU5⟩ : ∃ U5, w5.alloc (.cells #[.int .i64 (v : Int), .int .i64 (n2 : Int), .slice (some ⟨b8', o8, none⟩) n2 c8] 35) = U5 := ⟨_, rfl⟩
          have bx : Below w5.heap.size w5 U5 := by rw [← hU5]; exact (Below.refl _ _).alloc (Nat.le_refl _) _
          obtain ⟨ky, hky⟩ : ∃ ky, w5.heap.size = ky := ⟨_, rfl⟩
          have KY : Hid (Kg U5 ky (v : Int) (n2 : Int) (some ⟨b8', o8, none⟩) n2 c8) := Lib.hid (by rw [← hU5, ← hky]; exact Kg.new w5 _ _ _ _ _)
          have bw := b8.trans (bx.mono b8.size)
          have BW5 := Lib.hid bw
          have G5 := Lib.hid (g8.below bx)
          have CL5 := Lib.hid (CLk.out U5 (DU.out.trans (bw.mono DU.out.size)))
          clear g8 b8 bx bw CWx CLk p0 p1 p2
          go_wp2_with fail
          refine CL5.out.mono ?_
          rintro e w6 ⟨A9, m9, c9, rfl, g9⟩
          have B6 := Lib.hid g9.2.2
          have R9 := Lib.hid g9.1
          have BW6 := Lib.hid (BW5.out.trans (g9.2.2.mono BW5.out.size))
          have KY6 := Lib.hid (KY.out.below B6.out)
          have KX6 := Lib.hid (K7.out.below BW6.out)
          have K16 := Lib.hid (K1.out.below (DU.out.trans (BW6.out.mono DU.out.size)))
          have RY6 := Lib.hid (G5.out.1.below B6.out)
          have RX6 := Lib.hid (R7.out.below BW6.out)
          have HC8 := Lib.hid G5.out.2.1.2
          obtain ⟨y1, y2, A0, m0, d0, ey, hlt0, hc0, hr0, _⟩ := RY6.out.at 0 fx (by rw [XS.out]; rfl)
          injection ey with ey
          injection ey with ey1 ey2
          subst ey1 ey2
          rw [Nat.add_zero] at hc0
          obtain ⟨R8, hR8⟩ : ∃ R8, (if c8 = 1 then some ⟨b8', o8, none⟩ else some (⟨b8', o8 + 1, none⟩ : Addr)) = R8 := ⟨_, rfl⟩
          have rT := RY6.out.tailA (i := 1) (R := R8) HH1.out HC8.out (by rw [addr_add]; exact hR8)
          rw [znp, XS.out] at rT
          have rH := RX6.out.head (i := p) (by have := HP.out; omega)
          have zc8 : (n2 : Int) ≤ (c8 : Int) := by have := HC8.out; omega
          have zc7 : (p : Int) ≤ (c7 : Int) := by have := H7.out; have := HP.out; omega
          have D1 : ∀ (d8 d7 : Nat) (U : World), (U.cell? ⟨ky, 2, none⟩ = some (.slice (some ⟨b8', o8, none⟩) n2 c8) ∧ U.cell? ⟨w.heap.size, 1, none⟩ = some (.int .i64 (n2 : Int)) ∧ U.cell? ⟨kx, 2, none⟩ = some (.slice (some ⟨b7', o7, none⟩) n2 c7) ∧ U.cell? ⟨b8', o8, none⟩ = some (.slice A0 m0 d0) ∧ U.cell? ⟨w.heap.size, 0, none⟩ = some (.int .i64 (v : Int)) ∧ Aside (Below w6.heap.size w6 U)) → Calls Tryd.prog 15 #[.slice R8 p d8, .slice (some ⟨b7', o7, none⟩) p d7] U fun e w' => e = .returned (.bool true) ∧ Below U.heap.size U w' := fun d8 d7 U h => by
            have hb := h.2.2.2.2.2.out
            have hsm := sameRows_any R8 (some ⟨b7', o7, none⟩) p p d8 d7 ((X k).take p) ((X k).take p) U (rT.below hb) (rH.below hb) (by omega) (by omega) (fun z hz => HZk.out z (List.mem_of_mem_take hz)) (fun z hz => HZk.out z (List.mem_of_mem_take hz))
            rw [decide_eq_true rfl] at hsm
            exact hsm
          have D2 : ∀ (U : World), (U.cell? ⟨ky, 2, none⟩ = some (.slice (some ⟨b8', o8, none⟩) n2 c8) ∧ U.cell? ⟨w.heap.size, 1, none⟩ = some (.int .i64 (n2 : Int)) ∧ U.cell? ⟨kx, 2, none⟩ = some (.slice (some ⟨b7', o7, none⟩) n2 c7) ∧ U.cell? ⟨b8', o8, none⟩ = some (.slice A0 m0 d0) ∧ U.cell? ⟨w.heap.size, 0, none⟩ = some (.int .i64 (v : Int)) ∧ Aside (Below w6.heap.size w6 U)) → Calls Tryd.prog 28 #[.slice A9 m9 c9, .int .i64 (v : Int)] U fun e w' => ∃ A'' n' c'', e = .returned (.slice A'' n' c'') ∧ GivesC U w' A'' n' c'' fx ∧ Fr U A'' := fun U h => (CFk.out A9 m9 c9 U (R9.out.below h.2.2.2.2.2.out)).2
          have HR0 := Lib.hid hr0
          have key : ∀ U, Below w6.heap.size w6 U → (U.cell? ⟨ky, 2, none⟩ = some (.slice (some ⟨b8', o8, none⟩) n2 c8) ∧ U.cell? ⟨w.heap.size, 1, none⟩ = some (.int .i64 (n2 : Int)) ∧ U.cell? ⟨kx, 2, none⟩ = some (.slice (some ⟨b7', o7, none⟩) n2 c7) ∧ U.cell? ⟨b8', o8, none⟩ = some (.slice A0 m0 d0) ∧ U.cell? ⟨w.heap.size, 0, none⟩ = some (.int .i64 (v : Int)) ∧ Aside (Below w6.heap.size w6 U)) := fun U h => ⟨(KY6.out.below h).c2, (K16.out.below h).c1, (KX6.out.below h).c2, (h.cell (p := ⟨b8', o8, none⟩) hlt0).trans hc0, (K16.out.below h).c0, h⟩
          have sB : ∀ {U U' : World}, Below U.heap.size U U' → (U.cell? ⟨ky, 2, none⟩ = some (.slice (some ⟨b8', o8, none⟩) n2 c8) ∧ U.cell? ⟨w.heap.size, 1, none⟩ = some (.int .i64 (n2 : Int)) ∧ U.cell? ⟨kx, 2, none⟩ = some (.slice (some ⟨b7', o7, none⟩) n2 c7) ∧ U.cell? ⟨b8', o8, none⟩ = some (.slice A0 m0 d0) ∧ U.cell? ⟨w.heap.size, 0, none⟩ = some (.int .i64 (v : Int)) ∧ Aside (Below w6.heap.size w6 U)) → (U'.cell? ⟨ky, 2, none⟩ = some (.slice (some ⟨b8', o8, none⟩) n2 c8) ∧ U'.cell? ⟨w.heap.size, 1, none⟩ = some (.int .i64 (n2 : Int)) ∧ U'.cell? ⟨kx, 2, none⟩ = some (.slice (some ⟨b7', o7, none⟩) n2 c7) ∧ U'.cell? ⟨b8', o8, none⟩ = some (.slice A0 m0 d0) ∧ U'.cell? ⟨w.heap.size, 0, none⟩ = some (.int .i64 (v : Int)) ∧ Aside (Below w6.heap.size w6 U')) := fun {U U'} hb h => key _ (h.2.2.2.2.2.out.trans (hb.mono h.2.2.2.2.2.out.size))
          have hS := key w6.drew (Below.refl _ _).drew
          clear rT rH hr0 hc0 hlt0 key CL5 g9
          go_wp2
          go_region_held3 (fun U => U.cell? ⟨ky, 2, none⟩ = some (.slice (some ⟨b8', o8, none⟩) n2 c8) ∧ U.cell? ⟨w.heap.size, 1, none⟩ = some (.int .i64 (n2 : Int)) ∧ U.cell? ⟨kx, 2, none⟩ = some (.slice (some ⟨b7', o7, none⟩) n2 c7) ∧ U.cell? ⟨b8', o8, none⟩ = some (.slice A0 m0 d0) ∧ U.cell? ⟨w.heap.size, 0, none⟩ = some (.int .i64 (v : Int)) ∧ Aside (Below w6.heap.size w6 U))
            (assumption)
            (first
              | (go_at_call 15; (with_reducible refine (D1 _ _ _ (by assumption)).mono ?_); rintro e' w7 ⟨rfl, b7x⟩; have hs7 := sB b7x (by assumption); clear b7x D1)
              | (go_at_call 28; (with_reducible refine (D2 _ (by assumption)).mono ?_); rintro e' w8 ⟨A10, m10, c10, rfl, g10, _⟩; have hs8 := sB g10.2.2 (by assumption); have S8 := Lib.hid (same_any A0 A10 m0 m10 d0 c10 fx fx w8 (HR0.out.below hs8.2.2.2.2.2.out) g10.1 (FX.out _ HR0.out.1) (FX.out _ g10.1.1)); rw [decide_eq_true rfl] at S8; clear g10 D2)
              | (go_at_call 18; (with_reducible refine S8.out.mono ?_); rintro e' w9 ⟨rfl, b9⟩; have hs9 := sB b9 (by assumption); clear b9))
          have B9 := Lib.hid hs9.2.2.2.2.2.out
          have KX9 := Lib.hid (KX6.out.below B9.out)
          have KY9 := Lib.hid (KY6.out.below B9.out)
          have GV9 : Hid (Gv wr w9 (some ⟨b8', o8, none⟩) n2 c8 Y) := Lib.hid ((G5.out.below B6.out).below B9.out)
          have BW9 := Lib.hid (BW6.out.trans (B9.out.mono BW6.out.size))
          clear sB hS hs7 hs8 hs9 S8
          have u0 := KY9.out.c0
          have u1 := KY9.out.c1
          have u2 := KY9.out.c2
          have q0 := KX9.out.c0
          have q1 := KX9.out.c1
          have q2 := KX9.out.c2
          have qz := KX9.out.z
          go_wp2
          go_roundg gf
          case measure => omega
          case rel =>
            refine ⟨j, j + 1, rfl, by omega, hlt, by go_num, some ⟨b8', o8, none⟩, c8, KX9.out.put _ _ _ _ _, ?_, HC8.out, below_g3 (B7.out.trans (BW9.out.mono (Nat.le_of_lt K7.out.lt))) (Nat.le_refl _) _ _ _⟩
            rw [HY.out]
            exact (GV9.out.g3 KX9.out K7.out.lt _ _ _).1
        · have z1 : ¬ (j : Int) ≤ (n : Int) := by omega
          have DU := Lib.hid du
          have CWx := Lib.hid (CW.out wr du)
          clear hA k7 r7 h7 b7 du
          go_wp2_with fail
          refine CWx.out.mono ?_
          rintro e w5 ⟨rfl, b5⟩
          have B5 := Lib.hid (BV.out.trans ((DU.out.trans (b5.mono DU.out.size)).mono BV.out.size))
          clear b5
          go_wp2
          go_ret
          exact ⟨rfl, B5.out⟩

end Go.Proofs.YtgmgnlgolhjhmaaDoor
