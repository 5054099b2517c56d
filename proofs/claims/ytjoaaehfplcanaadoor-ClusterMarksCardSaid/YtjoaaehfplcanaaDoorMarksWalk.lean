/-
  The statement on attaching marks one after the other returns true, for every number and every list of numbers.
-/
import Derived.Test.YtjoaaehfplcanaaDoorAwake
import Derived.Test.YtjoaaehfplcanaaDoorClThree
namespace Go.Proofs.YtjoaaehfplcanaaDoor
open Go.RowKit Go.Shelf

/-- A slice of one number that was just laid. -/
theorem Out.single (w : World) (b : Int) : Out w (w.alloc (.cells #[.int .i32 b] 21)) (.slice (some ⟨w.heap.size, 0, none⟩) 1 1) [b] :=
  ⟨World.ownsRow_lit w #[.int .i32 b] 1 (Nat.le_refl _) (by decide) rfl, (Below.refl _ _).alloc (Nat.le_refl _) _⟩

/-- What the loop has behind the first k numbers: the string and the list. -/
def MarksAt (w0 wr : World) (b : Int) (xs : List Int) (k : Nat) (x : ByteArray) (v : Value) : Prop :=
  x = Cl.str (b :: (Cl.marksIn xs k).take 3) ∧ Out w0 wr v (b :: Cl.marksIn xs k)

set_option maxHeartbeats 2000000 in
set_option maxRecDepth 100000 in
theorem marks_walk (b : Int) (A : Option Addr) (n c : Nat) (xs : List Int) (w : World) (_hb0 : -2147483648 ≤ b) (_hb1 : b ≤ 2147483647) (hN : Nums w w.heap.size A n xs) (_hnil : A = none → n = 0 ∧ c = 0) (hn : n ≤ 9223372036854775807) (_hrange : ∀ z ∈ xs, -2147483648 ≤ z ∧ z ≤ 2147483647) (hT : Lib.Utf8Tabs 0 1 w) :
    Calls Tryd.prog 11 #[.int .i32 b, .slice A n c] w fun e w' => e = .returned (.bool true) ∧ Below w.heap.size w w' := by
  by_cases hbig : 20 < n
  · have hbz : (20 : Int) < (n : Int) := by omega
    have cA := Lib.hid (awake_true w hT)
    clear _hrange hN
    go_enter Tryd.func11, Tryd.ntmps11
    go_wp2_with fail
    refine cA.out.mono ?_
    rintro e w1 ⟨rfl, hb⟩
    go_wp2
    go_ret
    exact ⟨rfl, hb⟩
  · have hbz : ¬ (20 : Int) < (n : Int) := by omega
    have HN := Lib.hid hN
    clear _hrange hN
    have cM := mark_any b w
    cases hm : Cl.isMark b
    · have hm' : Cw.hits Cw.marks b = false := hm
      rw [hm'] at cM
      have cW := fun W => width_any b W
      cases hbs : Cl.isBase b
      · have hw := Cl.other_ctl hm hbs
        rw [hw] at cW
        clear hm hm' hbs hw
        go_enter Tryd.func11, Tryd.ntmps11
        go_wp2_with fail
        refine cM.mono ?_
        rintro e w1 ⟨rfl, b1⟩
        go_wp2_with fail
        refine (cW w1).mono ?_
        rintro e w2 ⟨rfl, b2⟩
        have b3 := b1.trans (b2.mono b1.size)
        have T3 := Utf8Tabs_below hT b3
        have cA := Lib.hid (awake_true w2 T3)
        go_wp2_with fail
        refine cA.out.mono ?_
        rintro e w4 ⟨rfl, b4⟩
        go_wp2
        go_ret
        exact ⟨rfl, b3.trans (b4.mono b3.size)⟩
      · have hw : 0 < Cw.wd b := by unfold Cl.isBase at hbs; simpa using hbs
        generalize Cw.wd b = wz at cW hw
        have hw1 : ¬ wz < 1 := by omega
        have HBS := Lib.hid hbs
        have cE : ∀ W : World, Calls Tryd.prog 30 #[.slice (some ⟨W.heap.size, 0, none⟩) 1 1] (W.alloc (.cells #[.int .i32 b] 21)) fun e w' => e = .returned (.string (Cl.str [b])) ∧ W.alloc (.cells #[.int .i32 b] 21) = w' := fun W => enc_one b W
        obtain ⟨x0, hx0⟩ : ∃ x0, Cl.str [b] = x0 := ⟨_, rfl⟩
        rw [hx0] at cE
        have HX0 := Lib.hid hx0
        clear hm hm' hbs hx0
        go_enter Tryd.func11, Tryd.ntmps11
        go_wp2_with fail
        refine cM.mono ?_
        rintro e w1 ⟨rfl, b1⟩
        go_wp2_with fail
        refine (cW w1).mono ?_
        rintro e w2 ⟨rfl, b2⟩
        have b3 := b1.trans (b2.mono b1.size)
        clear b1 b2 cM cW
        go_wp2_with fail
        refine (cE w2).mono ?_
        rintro e w3 ⟨rfl, rfl⟩
        obtain ⟨w3, hw3⟩ : ∃ w3, w2.alloc (.cells #[.int .i32 b] 21) = w3 := ⟨_, rfl⟩
        have b4 := b3.alloc b3.size (.cells #[.int .i32 b] 21)
        rw [hw3] at b4 ⊢
        have B4 := Lib.hid b4
        have HO := Lib.hid (Out.single w3 b)
        clear hw3 cE b3 b4
        go_wp2
        go_loopg [5, 6, 7, 8, 9] (n + 1) (fun gk s5 s6 i _ _ wr => ∃ (k : Nat) (x : ByteArray) (A6 : Option Addr) (n6 k6 : Nat), gk + k = n + 1 ∧ k ≤ n ∧ i = .int .i64 (k : Int) ∧ s5 = .string x ∧ s6 = .slice A6 n6 k6 ∧ Aside (MarksAt w3 wr b xs k x (.slice A6 n6 k6)))
        case atStart => exact ⟨0, x0, some ⟨w3.heap.size, 0, none⟩, 1, 1, by omega, Nat.zero_le _, rfl, rfl, rfl, ⟨HX0.out.symm, HO.out⟩⟩
        case round =>
          obtain ⟨k, x, A6, n6, k6, hg, hkn, rfl, rfl, rfl, hat⟩ := hrel
          have b5 := B4.out.trans (hat.out.2.2.mono B4.out.size)
          have T5 := Utf8Tabs_below hT b5
          by_cases hlt : k < n
          · obtain ⟨g', rfl⟩ : ∃ g', gk = g' + 1 := ⟨gk - 1, by omega⟩
            have hz : (k : Int) < (n : Int) := by omega
            have hz0 : (0 : Int) ≤ (k : Int) := by omega
            have hkx : k < xs.length := by rw [HN.out.1]; exact hlt
            obtain ⟨bb, off, rfl, hb, hc⟩ := HN.out.2 k hlt
            have hcell : wr.cell? ⟨bb, off + k, none⟩ = some (.int .i32 (xs.getD k 0)) := (b5.cell (p := ⟨bb, off + k, none⟩) hb).trans hc
            have HT := Lib.hid (Cl.marksIn_succ xs k hkx)
            have hml := Cl.marksIn_len xs k
            have hmm := Cl.marksIn_marks xs k
            have hxo := hat.out.1
            have HO6 := Lib.hid hat.out.2
            generalize xs.getD k 0 = r at hcell HT hc
            have HCX := Lib.hid hc
            clear hc hat
            have cM := mark_any r wr
            cases hr : Cl.isMark r
            · have hr' : Cw.hits Cw.marks r = false := hr
              rw [hr'] at cM
              have HQ : Hid (Cl.marksIn xs (k + 1) = Cl.marksIn xs k) := Lib.hid (by rw [HT.out, if_neg (by rw [hr]; simp)])
              have HXO := Lib.hid hxo
              clear hr hr' hmm hxo
              go_wp2_with fail
              refine cM.mono ?_
              rintro e w6 ⟨rfl, b6⟩
              have O6 : Aside (Out w3 w6 (.slice A6 n6 k6) (b :: Cl.marksIn xs k)) := HO6.out.below b6
              clear hcell b6 b5 T5
              go_wp2
              go_roundg g'
              case measure => omega
              case rel => exact ⟨k + 1, x, A6, n6, k6, by omega, by omega, by go_num, rfl, rfl, by unfold MarksAt; rw [HQ.out]; exact ⟨HXO.out, O6.out⟩⟩
            · have hr' : Cw.hits Cw.marks r = true := hr
              rw [hr'] at cM
              have hQ : Cl.marksIn xs (k + 1) = Cl.marksIn xs k ++ [r] := by rw [HT.out, if_pos hr]
              have hmore := Cl.attach_more HBS.out hmm hr
              have hxz : x.size ≤ 300 := by
                rw [hxo]
                have h1 := Cl.str_size (b :: (Cl.marksIn xs k).take 3)
                have h2 : (b :: (Cl.marksIn xs k).take 3).length ≤ 4 := by simp [List.length_take]; omega
                omega
              have hxe : U8.encL (b :: (Cl.marksIn xs k).take 3) = x.data.toList := by rw [hxo, Cl.str_data]
              rw [hxe, ← hxo] at hmore
              have HQ := Lib.hid hQ
              have hol : (b :: Cl.marksIn xs k).length ≤ 100000 := by rw [List.length_cons]; omega
              by_cases h3 : (Cl.marksIn xs k).length < 3
              · have hE := hmore.1
                rw [if_pos h3] at hE
                have HS := Lib.hid (hmore.2.1 h3)
                clear hr hr' hmm hQ hxe hmore hxo
                go_wp2_with fail
                refine cM.mono ?_
                rintro e w6 ⟨rfl, b6⟩
                have o6 := HO6.out.below b6
                have b7 := b5.trans (b6.mono b5.size)
                have hcell6 : w6.cell? ⟨bb, off + k, none⟩ = some (.int .i32 r) := (b6.cell (p := ⟨bb, off + k, none⟩) (by have := b5.size; show bb < wr.heap.size; omega)).trans hcell
                clear hcell b6
                go_wp2_with (at_builtin; refine wpList_push rfl (.tmp 40) (.tmp 45) rfl w3 w6 _ (b :: Cl.marksIn xs k) r rfl rfl o6 hol ?_; intro v7 w7 o7; obtain ⟨A7, n7, k7, hv7, m7⟩ := o7.reads; subst hv7; have b8 := B4.out.trans (o7.2.mono B4.out.size); have hcell7 : w7.cell? ⟨bb, off + k, none⟩ = some (.int .i32 r) := (b8.cell (p := ⟨bb, off + k, none⟩) hb).trans HCX.out)
                have T7 := Utf8Tabs_below hT b8
                have hn7 : n7 = (Cl.marksIn xs k).length + 2 := by have h1 := m7.1; simp at h1; omega
                have hn7z : (n7 : Int) ≤ 4 := by omega
                have c8 := attachC_any x r w7 hxz T7
                rw [hE] at c8
                have C8 := Lib.hid c8
                have O7 := Lib.hid o7
                clear c8 o7 m7 hn7 o6 hcell6 b7
                refine C8.out.mono ?_
                rintro e w8 ⟨rfl, b9⟩
                have O8 : Aside (Out w3 w8 (.slice A7 n7 k7) ((b :: Cl.marksIn xs k) ++ [r])) := O7.out.below b9
                clear hcell7 b8 b9 T7 C8
                go_wp2
                go_roundg g'
                case measure => omega
                case rel =>
                  refine ⟨k + 1, Cl.attS x r, A7, n7, k7, by omega, by omega, by go_num, rfl, rfl, ?_⟩
                  unfold MarksAt
                  rw [HQ.out]
                  exact ⟨HS.out, O8.out⟩
              · have hE := hmore.1
                rw [if_neg h3] at hE
                have HS := Lib.hid (hmore.2.2 h3)
                clear hr hr' hmm hQ hxe hmore hxo
                go_wp2_with fail
                refine cM.mono ?_
                rintro e w6 ⟨rfl, b6⟩
                have o6 := HO6.out.below b6
                have b7 := b5.trans (b6.mono b5.size)
                have hcell6 : w6.cell? ⟨bb, off + k, none⟩ = some (.int .i32 r) := (b6.cell (p := ⟨bb, off + k, none⟩) (by have := b5.size; show bb < wr.heap.size; omega)).trans hcell
                clear hcell b6
                go_wp2_with (at_builtin; refine wpList_push rfl (.tmp 40) (.tmp 45) rfl w3 w6 _ (b :: Cl.marksIn xs k) r rfl rfl o6 hol ?_; intro v7 w7 o7; obtain ⟨A7, n7, k7, hv7, m7⟩ := o7.reads; subst hv7; have b8 := B4.out.trans (o7.2.mono B4.out.size); have hcell7 : w7.cell? ⟨bb, off + k, none⟩ = some (.int .i32 r) := (b8.cell (p := ⟨bb, off + k, none⟩) hb).trans HCX.out)
                have T7 := Utf8Tabs_below hT b8
                have hn7 : n7 = (Cl.marksIn xs k).length + 2 := by have h1 := m7.1; simp at h1; omega
                have hn7z : ¬ (n7 : Int) ≤ 4 := by omega
                have c8 := attachC_any x r w7 hxz T7
                rw [hE] at c8
                have C8 := Lib.hid c8
                have O7 := Lib.hid o7
                clear c8 o7 m7 hn7 o6 hcell6 b7
                refine C8.out.mono ?_
                rintro e w8 ⟨rfl, b9⟩
                have O8 : Aside (Out w3 w8 (.slice A7 n7 k7) ((b :: Cl.marksIn xs k) ++ [r])) := O7.out.below b9
                clear hcell7 b8 b9 T7 C8
                go_wp2
                go_roundg g'
                case measure => omega
                case rel =>
                  refine ⟨k + 1, x, A7, n7, k7, by omega, by omega, by go_num, rfl, rfl, ?_⟩
                  unfold MarksAt
                  rw [HQ.out]
                  exact ⟨HS.out.symm, O8.out⟩
          · have hz : ¬ (k : Int) < (n : Int) := by omega
            have hge : n ≤ k := by omega
            have hmm := Cl.marksIn_marks xs k
            have hml := Cl.marksIn_len xs k
            have hsp := Cl.split_many HBS.out hmm
            have hxo := hat.out.1
            have hg6 := hat.out.2.gives
            have hn6 : n6 ≤ 21 := by rw [hg6.length, List.length_cons]; omega
            have s1 := split_any A6 n6 k6 wr.heap.size (b :: Cl.marksIn xs k) wr (Nat.le_refl _) hg6.1 (by omega)
            rw [hsp] at s1
            simp only [List.map_cons, List.map_nil] at s1
            rw [← hxo] at s1
            have S1 := Lib.hid s1
            clear hmm hml hsp hxo hg6 hat s1
            go_wp2_with fail
            refine S1.out.mono ?_
            rintro e w6 ⟨A7, n7, k7, rfl, g7⟩
            have T7 := Utf8Tabs_below T5 g7.2.2
            have b7 := b5.trans (g7.2.2.mono b5.size)
            have HS7 := Lib.hid g7.1
            clear g7 b5 T5
            go_wp2_with fail
            refine (same_new A7 n7 1 k7 [x] w6 w6.heap.size (Nat.le_refl _) HS7.out rfl (by decide) _ rfl).mono ?_
            rintro e w8 ⟨rfl, b8, _⟩
            have T8 := Utf8Tabs_below T7 b8
            have b9 := b7.trans (b8.mono b7.size)
            have cA := Lib.hid (awake_true w8 T8)
            clear T7 b7 b8
            go_wp2_with fail
            refine cA.out.mono ?_
            rintro e w10 ⟨rfl, b10⟩
            go_wp2
            go_ret
            exact ⟨rfl, b9.trans (b10.mono b9.size)⟩
    · have hm' : Cw.hits Cw.marks b = true := hm
      rw [hm'] at cM
      clear hm hm'
      go_enter Tryd.func11, Tryd.ntmps11
      go_wp2_with fail
      refine cM.mono ?_
      rintro e w1 ⟨rfl, b1⟩
      have T1 := Utf8Tabs_below hT b1
      have cA := Lib.hid (awake_true w1 T1)
      go_wp2_with fail
      refine cA.out.mono ?_
      rintro e w2 ⟨rfl, b2⟩
      go_wp2
      go_ret
      exact ⟨rfl, b1.trans (b2.mono b1.size)⟩

end Go.Proofs.YtjoaaehfplcanaaDoor
