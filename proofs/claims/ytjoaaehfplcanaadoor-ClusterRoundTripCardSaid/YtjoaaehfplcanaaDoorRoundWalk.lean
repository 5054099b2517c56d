/-
  The statement on the parts of a cluster returns true, for every string.
-/
import Derived.Test.YtjoaaehfplcanaaDoorAwake
import Derived.Test.YtjoaaehfplcanaaDoorClThree
import Derived.Deep.RegionWith
namespace Go.Proofs.YtjoaaehfplcanaaDoor
open Go.RowKit Go.Shelf

/-- A slice of one number that was just laid. -/
theorem Out.one (w : World) (b : Int) : Out w (w.alloc (.cells #[.int .i32 b] 21)) (.slice (some ⟨w.heap.size, 0, none⟩) 1 1) [b] :=
  ⟨World.ownsRow_lit w #[.int .i32 b] 1 (Nat.le_refl _) (by decide) rfl, (Below.refl _ _).alloc (Nat.le_refl _) _⟩

set_option maxHeartbeats 4000000 in
set_option maxRecDepth 100000 in
theorem roundtrip_walk (s : ByteArray) (w : World) (hs : s.size ≤ 140737488351232) (hT : Lib.Utf8Tabs 0 1 w) :
    Calls Tryd.prog 10 #[.string s] w fun e w' => e = .returned (.bool true) ∧ Below w.heap.size w w' := by
  by_cases hbig : 200 < s.size
  · have hbz : (200 : Int) < (s.size : Int) := by omega
    have cA := Lib.hid (awake_true w hT)
    go_enter Tryd.func10, Tryd.ntmps10
    go_wp2_with fail
    refine cA.out.mono ?_
    rintro e w1 ⟨rfl, hb⟩
    go_wp2
    go_ret
    exact ⟨rfl, hb⟩
  · have hbz : ¬ (200 : Int) < (s.size : Int) := by omega
    have c1 := Lib.hid (check_any s w (by omega) hT)
    by_cases hk : Cl.chk s.data.toList = 0
    · rw [hk] at c1
      obtain ⟨hgood, henc, _⟩ := Cl.good_chk hk
      have hwhole := Cl.parts_whole hk
      have hml := Cl.marksOf_len s.data.toList
      have hwc : Cl.widthC s.data.toList = Cw.wd (Cl.baseOf s.data.toList) := by unfold Cl.widthC; rw [if_pos hk]
      have hsplit := Cl.split_good_one hgood
      have hstr : Cl.str (U8.run s.data.toList).1 = s := Cl.same_bytes (by rw [Cl.str_data]; exact henc)
      have c2 := Lib.hid (fun W h => base_any s W (by omega) h)
      have c3 := Lib.hid (fun W h => marksC_any s W (by omega) h)
      have c4 := fun W h => widthC_any s W (by omega) h
      rw [hwc] at c4
      rw [hwhole] at hsplit hstr
      have HSP : Hid ((Cl.split (Cl.baseOf s.data.toList :: Cl.marksOf s.data.toList)).map Cl.str = [s]) := Lib.hid (by rw [hsplit]; simp only [List.map_cons, List.map_nil]; rw [hstr])
      have HST := Lib.hid hstr
      generalize Cl.baseOf s.data.toList = b at c2 c4 HSP HST
      generalize Cl.marksOf s.data.toList = ms at c3 hml HSP HST
      have C4 := Lib.hid c4
      clear hgood henc hwhole hwc hsplit hstr c4 hk
      go_enter Tryd.func10, Tryd.ntmps10
      go_wp2_with fail
      refine c1.out.mono ?_
      rintro e w1 ⟨rfl, b1⟩
      have T1 := Utf8Tabs_below hT b1
      go_wp2_with fail
      refine (c2.out w1 T1).mono ?_
      rintro e w2 ⟨rfl, b2⟩
      have T2 := Utf8Tabs_below T1 b2
      have b3 := b1.trans (b2.mono b1.size)
      have oL := Out.one w2 b
      have T3 := Utf8Tabs_below T2 oL.2
      clear b1 b2 T1
      go_wp2_with fail
      refine (c3.out _ T3).mono ?_
      rintro e w4 ⟨A4, n4, k4, rfl, g4⟩
      have o4 := oL.below g4.2.2
      have T4 := Utf8Tabs_below T3 g4.2.2
      have HN4 := Lib.hid g4.1
      have HNI4 := Lib.hid g4.2.1
      clear g4 oL T3
      go_wp2_with (at_builtin; refine wpList_join rfl (.tmp 15) (.tmp 17) rfl w2 w4 _ [b] ms A4 n4 k4 w4.heap.size rfl rfl o4 HN4.out HNI4.out (by simp only [List.length_cons, List.length_nil]; omega) ?_; intro v6 w6 ho6; obtain ⟨A6, n6, k6, hv6, g6⟩ := ho6.reads; subst hv6)
      have T6 : Lib.Utf8Tabs 0 1 w6.drew := Utf8Tabs_below T2 ho6.2.drew
      have b6 : Below w.heap.size w w6.drew := (b3.trans (ho6.2.mono b3.size)).drew
      have hn6 : n6 = ms.length + 1 := by have h1 := g6.1; simp at h1; omega
      obtain ⟨bb, off, hA6, hbb, hc6⟩ := g6.2 0 (by omega)
      subst hA6
      simp only [Nat.add_zero, List.cons_append, List.nil_append, List.getD_cons_zero] at hc6 g6
      have HN6 : Hid (Nums w6.drew w6.heap.size (some ⟨bb, off, none⟩) n6 (b :: ms)) := Lib.hid g6
      have hz0 : (0 : Int) < (n6 : Int) := by omega
      have hnl : n6 ≤ 4 := by omega
      have cE : Calls Tryd.prog 30 #[.slice (some ⟨bb, off, none⟩) n6 k6] w6.drew fun e w' => e = .returned (.string s) ∧ w6.drew = w' := by
        have := encode_any (some ⟨bb, off, none⟩) n6 k6 w6.heap.size (b :: ms) w6.drew g6
        have e : runesBytes (b :: ms) = s := HST.out
        rw [e] at this
        exact this
      have S1 : Calls Tryd.prog 14 #[.slice (some ⟨bb, off, none⟩) n6 k6] w6.drew fun e w' => ∃ A' n' c', e = .returned (.slice A' n' c') ∧ GivesS w6.drew w' A' n' c' [s] := by
        have := split_any (some ⟨bb, off, none⟩) n6 k6 w6.heap.size (b :: ms) w6.drew (Nat.le_refl _) g6 (by omega)
        rw [HSP.out] at this
        exact this
      have nA : Nums (w6.alloc (.cells #[.string s] 9)).drew w6.heap.size (some ⟨bb, off, none⟩) n6 (b :: ms) := g6.alloc (Nat.le_refl _) _
      have S2 : Calls Tryd.prog 14 #[.slice (some ⟨bb, off, none⟩) n6 k6] (w6.alloc (.cells #[.string s] 9)).drew fun e w' => ∃ A' n' c', e = .returned (.slice A' n' c') ∧ GivesS (w6.alloc (.cells #[.string s] 9)).drew w' A' n' c' [s] := by
        have := split_any (some ⟨bb, off, none⟩) n6 k6 w6.heap.size (b :: ms) (w6.alloc (.cells #[.string s] 9)).drew (by show w6.heap.size ≤ (w6.alloc (.cells #[.string s] 9)).heap.size; simp) nA (by omega)
        rw [HSP.out] at this
        exact this
      have HCS : Hid (Strs (w6.alloc (.cells #[.string s] 9)).drew (w6.heap.size + 1) (some ⟨w6.heap.size, 0, none⟩) 1 [s]) := Lib.hid (strs_new w6 [s] 9 1 rfl)
      have bA : Hid (Below w6.drew.heap.size w6.drew (w6.alloc (.cells #[.string s] 9)).drew) := Lib.hid ((Below.refl _ w6.drew).alloc (Nat.le_refl _) _)
      have hcs : w6.heap.size + 1 ≤ (w6.alloc (.cells #[.string s] 9)).drew.heap.size := by show w6.heap.size + 1 ≤ (w6.alloc (.cells #[.string s] 9)).heap.size; simp
      have HCZ := Lib.hid hcs
      have hbb' : bb < w6.drew.heap.size := hbb
      clear ho6 g6 o4 b3 T2 T4 HN4 HNI4 nA hcs hn6
      go_wp2_with fail
      have SI : ∀ (W : World) (A8 : Option Addr) (n8 k8 : Nat), Strs W W.heap.size A8 n8 [s] → Calls Tryd.prog 13 #[.slice A8 n8 k8, .slice (some ⟨W.heap.size, 0, none⟩) 1 1] (W.alloc (.cells #[.string s] 9)) fun e w' => e = .returned (.bool true) ∧ Below W.heap.size W w' :=
        fun W A8 n8 k8 h => (same_new A8 n8 1 k8 [s] W W.heap.size (Nat.le_refl _) h rfl (by decide) _ rfl).mono fun _ _ ⟨h1, h2, _⟩ => ⟨h1, h2⟩
      have SII : ∀ (W : World) (A8 : Option Addr) (n8 k8 : Nat), Strs W W.heap.size A8 n8 [s] → Strs W (w6.heap.size + 1) (some ⟨w6.heap.size, 0, none⟩) 1 [s] → Calls Tryd.prog 13 #[.slice A8 n8 k8, .slice (some ⟨w6.heap.size, 0, none⟩) 1 1] W fun e w' => e = .returned (.bool true) ∧ Below W.heap.size W w' :=
        fun W A8 n8 k8 h h2 => (sameS_true A8 _ n8 1 k8 1 _ _ [s] W (by have := h.1; simp at this; omega) h h2).mono fun _ _ ⟨h1, q, hq⟩ => ⟨h1, hq ▸ below_drewN (Below.refl _ _) q⟩
      have CA := Lib.hid (fun W h => awake_true W h)
      have CW := Lib.hid (fun W => width_any b W)
      have HSI := Lib.hid SI
      have HSII := Lib.hid SII
      have HS1 := Lib.hid S1
      have HS2 := Lib.hid S2
      have HCE := Lib.hid cE
      clear SI SII S1 S2 cE
      go_region_with (first
        | (go_at_call 30; (with_reducible refine HCE.out.mono ?_); rintro e w7 ⟨rfl, rfl⟩)
        | (go_at_call 14; (with_reducible refine HS1.out.mono ?_); rintro e w8 ⟨A8, n8, k8, rfl, g8⟩; have b8 := g8.2.2; have HG8 := Lib.hid g8.1; clear g8)
        | (go_at_call 14; (with_reducible refine HS2.out.mono ?_); rintro e w8 ⟨A8, n8, k8, rfl, g8⟩; have b8 := bA.out.trans (g8.2.2.mono bA.out.size); have HG8 := Lib.hid g8.1; have HCS8 := Lib.hid (HCS.out.below g8.2.2 HCZ.out); clear g8)
        | (go_at_call 13; (with_reducible refine (HSII.out w8 A8 n8 k8 HG8.out HCS8.out).mono ?_); rintro e w9 ⟨rfl, b9⟩; have bz := b8.trans (b9.mono b8.size); have T9 := Utf8Tabs_below T6 bz; have b10 := b6.trans (bz.mono b6.size); have hc9 := (bz.cell (p := ⟨bb, off, none⟩) hbb').trans hc6)
        | (go_at_call 13; (with_reducible refine (HSI.out w8 A8 n8 k8 HG8.out).mono ?_); rintro e w9 ⟨rfl, b9⟩; have bz := b8.trans (b9.mono b8.size); have T9 := Utf8Tabs_below T6 bz; have b10 := b6.trans (bz.mono b6.size); have hc9 := (bz.cell (p := ⟨bb, off, none⟩) hbb').trans hc6)
        | (go_at_call 18; (with_reducible refine (C4.out w9 T9).mono ?_); rintro e w11 ⟨rfl, b11⟩; have T11 := Utf8Tabs_below T9 b11; have b12 := b10.trans (b11.mono b10.size); have hc11 := (b11.cell (p := ⟨bb, off, none⟩) (Nat.lt_of_lt_of_le hbb' bz.size)).trans hc9)
        | (go_at_call 27; (with_reducible refine (CW.out w11).mono ?_); rintro e w13 ⟨rfl, b13⟩; have T13 := Utf8Tabs_below T11 b13; have b14 := b12.trans (b13.mono b12.size))
        | (go_at_call 12; (with_reducible refine (CA.out w13 T13).mono ?_); rintro e w15 ⟨rfl, b15⟩; have b16 := b14.trans (b15.mono b14.size)))
      all_goals
        go_wp2
        go_ret
        exact ⟨rfl, b16⟩
    · have hne := nat_ne hk
      generalize Cl.chk s.data.toList = ck at c1 hne
      clear hk
      go_enter Tryd.func10, Tryd.ntmps10
      go_wp2_with fail
      refine c1.out.mono ?_
      rintro e w1 ⟨rfl, b1⟩
      have T1 := Utf8Tabs_below hT b1
      have cA := Lib.hid (awake_true w1 T1)
      go_wp2_with fail
      refine cA.out.mono ?_
      rintro e w2 ⟨rfl, b2⟩
      go_wp2
      go_ret
      exact ⟨rfl, b1.trans (b2.mono b1.size)⟩

end Go.Proofs.YtjoaaehfplcanaaDoor
