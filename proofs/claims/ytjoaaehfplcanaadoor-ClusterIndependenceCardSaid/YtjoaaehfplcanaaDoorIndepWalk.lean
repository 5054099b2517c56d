/-
  The statement on a list that is split behind another returns true, for every two lists of numbers.
-/
import Derived.Test.YtjoaaehfplcanaaDoorAwake
import Derived.Test.YtjoaaehfplcanaaDoorClThree
namespace Go.Proofs.YtjoaaehfplcanaaDoor
open Go.RowKit Go.Shelf

set_option maxHeartbeats 2000000 in
set_option maxRecDepth 100000 in
theorem indep_walk (A1 : Option Addr) (n1 c1 : Nat) (xs : List Int) (A2 : Option Addr) (n2 c2 : Nat) (ys : List Int) (w : World) (hN1 : Nums w w.heap.size A1 n1 xs) (hnil1 : A1 = none → n1 = 0 ∧ c1 = 0) (hn1 : n1 ≤ 9223372036854775807) (_hr1 : ∀ z ∈ xs, -2147483648 ≤ z ∧ z ≤ 2147483647)
    (hN2 : Nums w w.heap.size A2 n2 ys) (hnil2 : A2 = none → n2 = 0 ∧ c2 = 0) (hn2 : n2 ≤ 9223372036854775807) (_hr2 : ∀ z ∈ ys, -2147483648 ≤ z ∧ z ≤ 2147483647) (hT : Lib.Utf8Tabs 0 1 w) :
    Calls Tryd.prog 9 #[.slice A1 n1 c1, .slice A2 n2 c2] w fun e w' => e = .returned (.bool true) ∧ Below w.heap.size w w' := by
  have cA := Lib.hid (awake_true w hT)
  by_cases hbig : 50 < n1
  · have hbz : (50 : Int) < (n1 : Int) := by omega
    clear _hr1 _hr2 hN1 hN2
    go_enter Tryd.func9, Tryd.ntmps9
    go_wp2_with fail
    refine cA.out.mono ?_
    rintro e w1 ⟨rfl, hb⟩
    go_wp2
    go_ret
    exact ⟨rfl, hb⟩
  · have hbz : ¬ (50 : Int) < (n1 : Int) := by omega
    by_cases hbig2 : 50 < n2
    · have hbz2 : (50 : Int) < (n2 : Int) := by omega
      clear _hr1 _hr2 hN1 hN2
      go_enter Tryd.func9, Tryd.ntmps9
      go_wp2_with fail
      refine cA.out.mono ?_
      rintro e w1 ⟨rfl, hb⟩
      go_wp2
      go_ret
      exact ⟨rfl, hb⟩
    · have hbz2 : ¬ (50 : Int) < (n2 : Int) := by omega
      have HN1 := Lib.hid hN1
      have HN2 := Lib.hid hN2
      have HNI1 := Lib.hid hnil1
      have HNI2 := Lib.hid hnil2
      clear _hr1 _hr2 hN1 hN2 hnil1 hnil2 cA
      go_enter Tryd.func9, Tryd.ntmps9
      go_wp2
      go_loopg [5] (n2 + 1) (fun gk i wr => ∃ k : Nat, gk + k = n2 + 1 ∧ k ≤ n2 ∧ i = .int .i64 (k : Int) ∧ Aside (Below w.heap.size w wr) ∧ Aside (∀ j, j < k → Cw.wd (ys.getD j 0) = -1))
      case atStart => exact ⟨0, by omega, Nat.zero_le _, rfl, Below.refl _ w, (fun j hj => absurd hj (Nat.not_lt_zero _) : ∀ j, j < 0 → Cw.wd (ys.getD j 0) = -1)⟩
      case round =>
        obtain ⟨k, hg, hkn, rfl, BW, A'⟩ := hrel
        have T0 := Utf8Tabs_below hT BW.out
        by_cases hlt : k < n2
        · obtain ⟨g', rfl⟩ : ∃ g', gk = g' + 1 := ⟨gk - 1, by omega⟩
          have hz : (k : Int) < (n2 : Int) := by omega
          have hz0 : (0 : Int) ≤ (k : Int) := by omega
          obtain ⟨bb, off, hA2, hb, hc⟩ := HN2.out.2 k hlt
          have hcell : wr.cell? ⟨bb, off + k, none⟩ = some (.int .i32 (ys.getD k 0)) := (BW.out.cell (p := ⟨bb, off + k, none⟩) hb).trans hc
          have hsz := BW.out.size
          obtain ⟨r, hr0⟩ : ∃ r, ys.getD k 0 = r := ⟨_, rfl⟩
          rw [hr0] at hcell
          have HR0 := Lib.hid hr0
          subst hA2
          clear hc hr0
          have cM := fun W => mark_any r W
          cases hr : Cl.isMark r
          · have hr' : Cw.hits Cw.marks r = false := hr
            rw [hr'] at cM
            have cW := fun W => width_any r W
            cases hbs : Cl.isBase r
            · have hw := Cl.other_ctl hr hbs
              rw [hw] at cW
              have HW : Hid (Cw.wd r = -1) := Lib.hid hw
              clear hr hr' hbs hw
              go_wp2_with fail
              refine (cM wr).mono ?_
              rintro e w1 ⟨rfl, b1⟩
              have hcell1 : w1.cell? ⟨bb, off + k, none⟩ = some (.int .i32 r) := (b1.cell (p := ⟨bb, off + k, none⟩) (by show bb < wr.heap.size; omega)).trans hcell
              go_wp2_with fail
              refine (cW w1).mono ?_
              rintro e w2 ⟨rfl, b2⟩
              have b3 := b1.trans (b2.mono b1.size)
              have hcell2 : w2.cell? ⟨bb, off + k, none⟩ = some (.int .i32 r) := (b3.cell (p := ⟨bb, off + k, none⟩) (by show bb < wr.heap.size; omega)).trans hcell
              go_wp2_with fail
              refine (cM w2).mono ?_
              rintro e w3 ⟨rfl, b4⟩
              have B4 : Aside (Below w.heap.size w w3) := (BW.out.trans (b3.mono hsz)).trans (b4.mono (Nat.le_trans hsz b3.size))
              clear hcell hcell1 hcell2 b1 b2 b3 b4
              go_wp2
              go_roundg g'
              case measure => omega
              case rel =>
                refine ⟨k + 1, by omega, by omega, by go_num, B4, (show Aside _ from fun j hj => ?_)⟩
                by_cases e : j = k
                · subst e
                  rw [HR0.out]; exact HW.out
                · exact A'.out j (by omega)
            · have hw : 0 < Cw.wd r := by unfold Cl.isBase at hbs; simpa using hbs
              have HX : Hid (k = ys.length ∨ Cl.isBase (ys.getD k 0) = true) := Lib.hid (.inr (by rw [HR0.out]; exact hbs))
              generalize Cw.wd r = wz at cW hw
              have hw1 : ¬ wz < 0 := by omega
              clear hr hr' hbs
              go_wp2_with fail
              refine (cM wr).mono ?_
              rintro e w1 ⟨rfl, b1⟩
              have hcell1 : w1.cell? ⟨bb, off + k, none⟩ = some (.int .i32 r) := (b1.cell (p := ⟨bb, off + k, none⟩) (by show bb < wr.heap.size; omega)).trans hcell
              go_wp2_with fail
              refine (cW w1).mono ?_
              rintro e wx ⟨rfl, b2⟩
              have BX : Hid (Below w.heap.size w wx) := Lib.hid ((BW.out.trans (b1.mono hsz)).trans (b2.mono (Nat.le_trans hsz b1.size)))
              clear hcell hcell1 b1 b2 cM cW hsz
              have HAP := Lib.hid (Cl.split_apart xs (Cl.apart_at ys k (by have := HN2.out.1; omega) A'.out HX.out))
              have TX := Lib.hid (Utf8Tabs_below hT BX.out)
              have hlx := HN1.out.1
              have hly := HN2.out.1
              have hsx : (Cl.split xs).length ≤ 50 := by have := Cl.split_len xs; omega
              have hsy : (Cl.split ys).length ≤ 50 := by have := Cl.split_len ys; omega
              have HSX := Lib.hid hsx
              have HSY := Lib.hid hsy
              clear hlx hly hsx hsy
              go_wp2_with (first | (at_builtin; refine wpList_join rfl (.tmp 44) (.tmp 45) rfl wx _ _ [] xs A1 n1 c1 w.heap.size rfl rfl (Out.laid wx) (HN1.out.below (BX.out.alloc BX.out.size _) (Nat.le_refl _)) HNI1.out (by have := HN1.out.1; simp; omega) ?_; intro v1 w1 ho1; rw [List.nil_append] at ho1) | (at_builtin; refine wpList_join rfl (.tmp 46) (.tmp 47) rfl wx w1 _ xs ys (some ⟨bb, off, none⟩) n2 c2 w.heap.size rfl rfl ho1 (HN2.out.below (BX.out.trans (ho1.2.mono BX.out.size)) (Nat.le_refl _)) HNI2.out (by have := HN1.out.1; have := HN2.out.1; omega) ?_; intro v2 w2 ho2; obtain ⟨A3, n3, c3, hv3, g3⟩ := ho2.reads; subst hv3))
              have b2 := BX.out.trans (ho2.2.mono BX.out.size)
              have hn3 : n3 ≤ 100 := by have h1 := g3.1; rw [List.length_append] at h1; have := HN1.out.1; have := HN2.out.1; omega
              have HG3 := Lib.hid g3
              have T2 := Utf8Tabs_below TX.out ho2.2
              have b2s := b2.size
              have s1 := Lib.hid (split_any A1 n1 c1 w.heap.size xs (w2.alloc (.cells #[] 9)) (by simp; omega) (HN1.out.below (b2.alloc b2s _) (Nat.le_refl _)) (by omega))
              have HO2 := Lib.hid (And.intro b2 T2)
              clear ho1 ho2 g3 T2 b2
              refine s1.out.mono ?_
              rintro e w3 ⟨A4, n4, c4, rfl, g4⟩
              have oS : OutS w2 w3 (.slice (some ⟨w2.heap.size, 0, none⟩) 0 0) [] := (OutS.laid w2).below g4.2.2
              have HS4 := Lib.hid g4.1
              have HNI4 := Lib.hid g4.2.1
              clear g4 s1
              go_wp2_with (at_builtin; refine wpList_joinS rfl (.tmp 49) (.tmp 51) rfl w2 w3 _ [] ((Cl.split xs).map Cl.str) A4 n4 c4 w3.heap.size rfl rfl oS HS4.out HNI4.out (by have := HSX.out; simp; omega) ?_; intro v5 w5 ho5; rw [List.nil_append] at ho5)
              have b5 := HO2.out.1.trans (ho5.2.mono b2s)
              have s2 := Lib.hid (split_any (some ⟨bb, off, none⟩) n2 c2 w.heap.size ys w5 b5.size (HN2.out.below b5 (Nat.le_refl _)) (by omega))
              have HO5 := Lib.hid ho5
              clear ho5 oS b5
              refine s2.out.mono ?_
              rintro e w6 ⟨A6, n6, c6, rfl, g6⟩
              have o6 := HO5.out.below g6.2.2
              have HS6 := Lib.hid g6.1
              have HNI6 := Lib.hid g6.2.1
              clear g6 s2
              go_wp2_with (at_builtin; refine wpList_joinS rfl (.tmp 52) (.tmp 54) rfl w2 w6 _ ((Cl.split xs).map Cl.str) ((Cl.split ys).map Cl.str) A6 n6 c6 w6.heap.size rfl rfl o6 HS6.out HNI6.out (by have := HSX.out; have := HSY.out; rw [List.length_map, List.length_map]; omega) ?_; intro v7 w7 ho7; obtain ⟨A7, n7, c7, hv7, g7⟩ := ho7.gives; subst hv7)
              have T7 := Utf8Tabs_below HO2.out.2 g7.2.2
              have b7 := HO2.out.1.trans (g7.2.2.mono b2s)
              have m7 := HG3.out.below g7.2.2 (Nat.le_refl _)
              have hn7 : n7 ≤ 100 := by have h1 := g7.1.1; rw [List.length_append, List.length_map, List.length_map] at h1; have := HSX.out; have := HSY.out; omega
              have s3 := split_any A3 n3 c3 w2.heap.size (xs ++ ys) w7 g7.2.2.size m7 (by omega)
              rw [HAP.out, List.map_append] at s3
              have S3 := Lib.hid s3
              have HS7 := Lib.hid g7.1
              clear o6 ho7 g7 s3 m7
              refine S3.out.mono ?_
              rintro e w8 ⟨A8, n8, c8, rfl, g8⟩
              have T8 := Utf8Tabs_below T7 g8.2.2
              have b8 := b7.trans (g8.2.2.mono b7.size)
              have HS7' := Lib.hid (HS7.out.below g8.2.2 (Nat.le_refl _))
              have hn8 : n8 ≤ 100 := by have h1 := g8.1.1; rw [List.length_append, List.length_map, List.length_map] at h1; have := HSX.out; have := HSY.out; omega
              have s4 := Lib.hid (sameS_true A8 A7 n8 n7 c8 c7 _ _ _ w8 (by omega) g8.1 HS7'.out)
              clear g8 T7 b7
              go_wp2_with fail
              refine s4.out.mono ?_
              rintro e w9 ⟨rfl, m, rfl⟩
              have T9 : Lib.Utf8Tabs 0 1 (w8.drewN m) := T8
              have b9 := below_drewN b8 m
              generalize w8.drewN m = w9 at T9 b9 ⊢
              have cA := Lib.hid (awake_true w9 T9)
              clear T8 b8
              go_wp2_with fail
              refine cA.out.mono ?_
              rintro e w10 ⟨rfl, b10⟩
              go_wp2
              go_ret
              exact ⟨rfl, b9.trans (b10.mono b9.size)⟩
          · have hr' : Cw.hits Cw.marks r = true := hr
            rw [hr'] at cM
            clear hr hr'
            go_wp2_with fail
            refine (cM wr).mono ?_
            rintro e w1 ⟨rfl, b1⟩
            have hcell1 : w1.cell? ⟨bb, off + k, none⟩ = some (.int .i32 r) := (b1.cell (p := ⟨bb, off + k, none⟩) (by show bb < wr.heap.size; omega)).trans hcell
            go_wp2_with fail
            refine (cM w1).mono ?_
            rintro e w2 ⟨rfl, b2⟩
            have b3 := b1.trans (b2.mono b1.size)
            have T2 := Utf8Tabs_below T0 b3
            have b4 := BW.out.trans (b3.mono hsz)
            have cA := Lib.hid (awake_true w2 T2)
            clear hcell hcell1 b1 b2 b3
            go_wp2_with fail
            refine cA.out.mono ?_
            rintro e w3 ⟨rfl, b5⟩
            go_wp2
            go_ret
            exact ⟨rfl, b4.trans (b5.mono b4.size)⟩
        · have hz : ¬ (k : Int) < (n2 : Int) := by omega
          have HX : Hid (k = ys.length ∨ Cl.isBase (ys.getD k 0) = true) := Lib.hid (.inl (by have := HN2.out.1; omega))
          obtain ⟨wx, hwx⟩ : ∃ wx, wr = wx := ⟨_, rfl⟩
          subst hwx
          have BX : Hid (Below w.heap.size w wr) := Lib.hid BW.out
          have HAP := Lib.hid (Cl.split_apart xs (Cl.apart_at ys k (by have := HN2.out.1; omega) A'.out HX.out))
          have TX := Lib.hid (Utf8Tabs_below hT BX.out)
          have hlx := HN1.out.1
          have hly := HN2.out.1
          have hsx : (Cl.split xs).length ≤ 50 := by have := Cl.split_len xs; omega
          have hsy : (Cl.split ys).length ≤ 50 := by have := Cl.split_len ys; omega
          have HSX := Lib.hid hsx
          have HSY := Lib.hid hsy
          clear hlx hly hsx hsy
          go_wp2_with (first | (at_builtin; refine wpList_join rfl (.tmp 44) (.tmp 45) rfl wr _ _ [] xs A1 n1 c1 w.heap.size rfl rfl (Out.laid wr) (HN1.out.below (BX.out.alloc BX.out.size _) (Nat.le_refl _)) HNI1.out (by have := HN1.out.1; simp; omega) ?_; intro v1 w1 ho1; rw [List.nil_append] at ho1) | (at_builtin; refine wpList_join rfl (.tmp 46) (.tmp 47) rfl wr w1 _ xs ys A2 n2 c2 w.heap.size rfl rfl ho1 (HN2.out.below (BX.out.trans (ho1.2.mono BX.out.size)) (Nat.le_refl _)) HNI2.out (by have := HN1.out.1; have := HN2.out.1; omega) ?_; intro v2 w2 ho2; obtain ⟨A3, n3, c3, hv3, g3⟩ := ho2.reads; subst hv3))
          have b2 := BX.out.trans (ho2.2.mono BX.out.size)
          have hn3 : n3 ≤ 100 := by have h1 := g3.1; rw [List.length_append] at h1; have := HN1.out.1; have := HN2.out.1; omega
          have HG3 := Lib.hid g3
          have T2 := Utf8Tabs_below TX.out ho2.2
          have b2s := b2.size
          have s1 := Lib.hid (split_any A1 n1 c1 w.heap.size xs (w2.alloc (.cells #[] 9)) (by simp; omega) (HN1.out.below (b2.alloc b2s _) (Nat.le_refl _)) (by omega))
          have HO2 := Lib.hid (And.intro b2 T2)
          clear ho1 ho2 g3 T2 b2
          refine s1.out.mono ?_
          rintro e w3 ⟨A4, n4, c4, rfl, g4⟩
          have oS : OutS w2 w3 (.slice (some ⟨w2.heap.size, 0, none⟩) 0 0) [] := (OutS.laid w2).below g4.2.2
          have HS4 := Lib.hid g4.1
          have HNI4 := Lib.hid g4.2.1
          clear g4 s1
          go_wp2_with (at_builtin; refine wpList_joinS rfl (.tmp 49) (.tmp 51) rfl w2 w3 _ [] ((Cl.split xs).map Cl.str) A4 n4 c4 w3.heap.size rfl rfl oS HS4.out HNI4.out (by have := HSX.out; simp; omega) ?_; intro v5 w5 ho5; rw [List.nil_append] at ho5)
          have b5 := HO2.out.1.trans (ho5.2.mono b2s)
          have s2 := Lib.hid (split_any A2 n2 c2 w.heap.size ys w5 b5.size (HN2.out.below b5 (Nat.le_refl _)) (by omega))
          have HO5 := Lib.hid ho5
          clear ho5 oS b5
          refine s2.out.mono ?_
          rintro e w6 ⟨A6, n6, c6, rfl, g6⟩
          have o6 := HO5.out.below g6.2.2
          have HS6 := Lib.hid g6.1
          have HNI6 := Lib.hid g6.2.1
          clear g6 s2
          go_wp2_with (at_builtin; refine wpList_joinS rfl (.tmp 52) (.tmp 54) rfl w2 w6 _ ((Cl.split xs).map Cl.str) ((Cl.split ys).map Cl.str) A6 n6 c6 w6.heap.size rfl rfl o6 HS6.out HNI6.out (by have := HSX.out; have := HSY.out; rw [List.length_map, List.length_map]; omega) ?_; intro v7 w7 ho7; obtain ⟨A7, n7, c7, hv7, g7⟩ := ho7.gives; subst hv7)
          have T7 := Utf8Tabs_below HO2.out.2 g7.2.2
          have b7 := HO2.out.1.trans (g7.2.2.mono b2s)
          have m7 := HG3.out.below g7.2.2 (Nat.le_refl _)
          have hn7 : n7 ≤ 100 := by have h1 := g7.1.1; rw [List.length_append, List.length_map, List.length_map] at h1; have := HSX.out; have := HSY.out; omega
          have s3 := split_any A3 n3 c3 w2.heap.size (xs ++ ys) w7 g7.2.2.size m7 (by omega)
          rw [HAP.out, List.map_append] at s3
          have S3 := Lib.hid s3
          have HS7 := Lib.hid g7.1
          clear o6 ho7 g7 s3 m7
          refine S3.out.mono ?_
          rintro e w8 ⟨A8, n8, c8, rfl, g8⟩
          have T8 := Utf8Tabs_below T7 g8.2.2
          have b8 := b7.trans (g8.2.2.mono b7.size)
          have HS7' := Lib.hid (HS7.out.below g8.2.2 (Nat.le_refl _))
          have hn8 : n8 ≤ 100 := by have h1 := g8.1.1; rw [List.length_append, List.length_map, List.length_map] at h1; have := HSX.out; have := HSY.out; omega
          have s4 := Lib.hid (sameS_true A8 A7 n8 n7 c8 c7 _ _ _ w8 (by omega) g8.1 HS7'.out)
          clear g8 T7 b7
          go_wp2_with fail
          refine s4.out.mono ?_
          rintro e w9 ⟨rfl, m, rfl⟩
          have T9 : Lib.Utf8Tabs 0 1 (w8.drewN m) := T8
          have b9 := below_drewN b8 m
          generalize w8.drewN m = w9 at T9 b9 ⊢
          have cA := Lib.hid (awake_true w9 T9)
          clear T8 b8
          go_wp2_with fail
          refine cA.out.mono ?_
          rintro e w10 ⟨rfl, b10⟩
          go_wp2
          go_ret
          exact ⟨rfl, b9.trans (b10.mono b9.size)⟩

end Go.Proofs.YtjoaaehfplcanaaDoor
