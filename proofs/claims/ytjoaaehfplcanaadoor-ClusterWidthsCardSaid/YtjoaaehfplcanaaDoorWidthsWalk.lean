/-
  The statement on the sum of the widths of the elements of a Split returns true, for every list of numbers.
-/
import Derived.Test.YtjoaaehfplcanaaDoorAwake
import Derived.Test.YtjoaaehfplcanaaDoorClThree
namespace Go.Proofs.YtjoaaehfplcanaaDoor
open Go.RowKit Go.Shelf

/-- One more character in the sums. -/
def sumStep (st : Int × Int) (r : Int) : Int × Int := if Cl.isMark r = true then (if st.2 = 0 then (st.1 + 1, 1) else st) else if Cl.isBase r = true then (st.1 + Cw.wd r, st.2 + 1) else st
theorem take_sums (xs : List Int) (k : Nat) (hk : k < xs.length) : Cl.sums (xs.take (k + 1)) = sumStep (Cl.sums (xs.take k)) (xs.getD k 0) := by
  rw [Cw.take_succ xs k hk, Cl.sums_snoc]
  rfl
theorem split_strW (xs : List Int) (j : Nat) (hj : j < (Cl.split xs).length) : ∃ g, Cl.Good g ∧ ((Cl.split xs).map Cl.str).getD j ⟨#[]⟩ = Cl.str g ∧ (Cl.split xs).getD j [] = g := by
  refine ⟨(Cl.split xs)[j], Cl.split_good xs _ (List.getElem_mem hj), ?_, ?_⟩
  · simp [List.getD_eq_getElem?_getD, hj]
  · simp [List.getD_eq_getElem?_getD, hj]

set_option maxHeartbeats 2000000 in
set_option maxRecDepth 100000 in
theorem widths_walk (A : Option Addr) (n c : Nat) (xs : List Int) (w : World) (hN : Nums w w.heap.size A n xs) (_hnil : A = none → n = 0 ∧ c = 0) (hn : n ≤ 9223372036854775807) (_hrange : ∀ z ∈ xs, -2147483648 ≤ z ∧ z ≤ 2147483647) (hT : Lib.Utf8Tabs 0 1 w) :
    Calls Tryd.prog 8 #[.slice A n c] w fun e w' => e = .returned (.bool true) ∧ Below w.heap.size w w' := by
  by_cases hbig : 100 < n
  · have hbz : (100 : Int) < (n : Int) := by omega
    have cA := Lib.hid (awake_true w hT)
    clear _hrange hN
    go_enter Tryd.func8, Tryd.ntmps8
    go_wp2_with fail
    refine cA.out.mono ?_
    rintro e w1 ⟨rfl, hb⟩
    go_wp2
    go_ret
    exact ⟨rfl, hb⟩
  · have hbz : ¬ (100 : Int) < (n : Int) := by omega
    have HN := Lib.hid hN
    clear _hrange hN
    go_enter Tryd.func8, Tryd.ntmps8
    go_wp2
    go_loopg [3, 4, 5, 6] (n + 1) (fun gk s3 s4 i _ wr => ∃ (k : Nat) (a b : Int), gk + k = n + 1 ∧ k ≤ n ∧ i = .int .i64 (k : Int) ∧ s3 = .int .i64 a ∧ s4 = .int .i64 b ∧ Aside (Below w.heap.size w wr) ∧ Aside (Cl.sums (xs.take k) = (a, b)))
    case atStart => exact ⟨0, 0, 0, by omega, Nat.zero_le _, rfl, rfl, rfl, Below.refl _ w, (rfl : Cl.sums (xs.take 0) = (0, 0))⟩
    case round =>
      obtain ⟨k, a, b, hg, hkn, rfl, rfl, rfl, BW, HC⟩ := hrel
      by_cases hlt : k < n
      · obtain ⟨g', rfl⟩ : ∃ g', gk = g' + 1 := ⟨gk - 1, by omega⟩
        have hz : (k : Int) < (n : Int) := by omega
        have hz0 : (0 : Int) ≤ (k : Int) := by omega
        have hkx : k < xs.length := by rw [HN.out.1]; exact hlt
        obtain ⟨bb, off, rfl, hb, hc⟩ := HN.out.2 k hlt
        have hcell : wr.cell? ⟨bb, off + k, none⟩ = some (.int .i32 (xs.getD k 0)) := (BW.out.cell (p := ⟨bb, off + k, none⟩) hb).trans hc
        have HT := Lib.hid (take_sums xs k hkx)
        obtain ⟨n0, hs1, hs2, hs3, hs4, _, _⟩ := Cl.sums_facts (xs.take k)
        rw [HC.out] at hs1 hs3 hs4 HT
        have hl1 : (xs.take k).length ≤ k := by rw [List.length_take]; omega
        simp only at hs1 hs3 hs4
        have ha1 : 0 ≤ a := hs3
        have ha2 : a ≤ 200 := by omega
        have hb1 : 0 ≤ b := by omega
        have hb2 : b ≤ 100 := by omega
        generalize xs.getD k 0 = r at hcell HT hc
        clear hc HC hs1 hs2 hs3 hs4 hl1
        have cM := mark_any r wr
        have hsz := BW.out.size
        cases hr : Cl.isMark r
        · have hr' : Cw.hits Cw.marks r = false := hr
          rw [hr'] at cM
          have cW := fun W => width_any r W
          cases hbs : Cl.isBase r
          · have hw := Cl.other_ctl hr hbs
            rw [hw] at cW
            have HQ : Hid (sumStep (a, b) r = (a, b)) := Lib.hid (by unfold sumStep; rw [if_neg (by rw [hr]; simp), if_neg (by rw [hbs]; simp)])
            clear hr hr' hbs hw
            go_wp2_with fail
            refine cM.mono ?_
            rintro e w1 ⟨rfl, b1⟩
            have hcell1 : w1.cell? ⟨bb, off + k, none⟩ = some (.int .i32 r) := (b1.cell (p := ⟨bb, off + k, none⟩) (by show bb < wr.heap.size; omega)).trans hcell
            go_wp2_with fail
            refine (cW w1).mono ?_
            rintro e w2 ⟨rfl, b2⟩
            have B2 : Aside (Below w.heap.size w w2) := (BW.out.trans (b1.mono hsz)).trans (b2.mono (Nat.le_trans hsz b1.size))
            clear hcell hcell1 b1 b2
            go_wp2
            go_roundg g'
            case measure => omega
            case rel => exact ⟨k + 1, a, b, by omega, by omega, by go_num, rfl, rfl, B2, by rw [HT.out, HQ.out]; exact rfl⟩
          · have hw : 0 < Cw.wd r := by unfold Cl.isBase at hbs; simpa using hbs
            have hw2 : Cw.wd r ≤ 2 := by rcases Cw.wd_cases r with h | h | h | h <;> omega
            have HQ : Hid (sumStep (a, b) r = (a + Cw.wd r, b + 1)) := Lib.hid (by unfold sumStep; rw [if_neg (by rw [hr]; simp), if_pos hbs])
            generalize Cw.wd r = wz at cW hw hw2 HQ
            clear hr hr' hbs
            go_wp2_with fail
            refine cM.mono ?_
            rintro e w1 ⟨rfl, b1⟩
            have hcell1 : w1.cell? ⟨bb, off + k, none⟩ = some (.int .i32 r) := (b1.cell (p := ⟨bb, off + k, none⟩) (by show bb < wr.heap.size; omega)).trans hcell
            go_wp2_with fail
            refine (cW w1).mono ?_
            rintro e w2 ⟨rfl, b2⟩
            have B2 : Aside (Below w.heap.size w w2) := (BW.out.trans (b1.mono hsz)).trans (b2.mono (Nat.le_trans hsz b1.size))
            clear hcell hcell1 b1 b2
            go_wp2
            go_roundg g'
            case measure => omega
            case rel => exact ⟨k + 1, a + wz, b + 1, by omega, by omega, by go_num, rfl, rfl, B2, by rw [HT.out, HQ.out]; exact rfl⟩
        · have hr' : Cw.hits Cw.marks r = true := hr
          rw [hr'] at cM
          by_cases ha0 : b = 0
          · subst ha0
            have HQ : Hid (sumStep (a, 0) r = (a + 1, 1)) := Lib.hid (by unfold sumStep; rw [if_pos hr]; rfl)
            clear hr hr'
            go_wp2_with fail
            refine cM.mono ?_
            rintro e w1 ⟨rfl, b1⟩
            have B2 : Aside (Below w.heap.size w w1) := BW.out.trans (b1.mono hsz)
            clear hcell b1
            go_wp2
            go_roundg g'
            case measure => omega
            case rel => exact ⟨k + 1, a + 1, 1, by omega, by omega, by go_num, rfl, rfl, B2, by rw [HT.out, HQ.out]; exact rfl⟩
          · have hab : (b == 0) = false := by simpa using ha0
            have HQ : Hid (sumStep (a, b) r = (a, b)) := Lib.hid (by unfold sumStep; rw [if_pos hr]; simp [ha0])
            clear hr hr'
            go_wp2_with fail
            refine cM.mono ?_
            rintro e w1 ⟨rfl, b1⟩
            have B2 : Aside (Below w.heap.size w w1) := BW.out.trans (b1.mono hsz)
            clear hcell b1
            go_wp2
            go_roundg g'
            case measure => omega
            case rel => exact ⟨k + 1, a, b, by omega, by omega, by go_num, rfl, rfl, B2, by rw [HT.out, HQ.out]; exact rfl⟩
      · have hz : ¬ (k : Int) < (n : Int) := by omega
        have htk : xs.take k = xs := List.take_of_length_le (by rw [HN.out.1]; omega)
        rw [htk] at HC
        obtain ⟨n0, _, _, hs3, hs4, hwid, _⟩ := Cl.sums_facts xs
        rw [HC.out] at hs3 hs4 hwid
        have hxl := HN.out.1
        simp only at hs3 hs4 hwid
        have ha1 : 0 ≤ a := hs3
        have ha2 : a ≤ 200 := by omega
        have HWD := Lib.hid hwid
        have hspl : (Cl.split xs).length ≤ 100 := by have := Cl.split_len xs; omega
        have c1 := Lib.hid (split_any A n c w.heap.size xs wr BW.out.size (HN.out.below BW.out (Nat.le_refl _)) (by omega))
        have T1 := Utf8Tabs_below hT BW.out
        clear HC htk hxl hs3 hs4 hwid
        go_wp2_with fail
        refine c1.out.mono ?_
        rintro e w1 ⟨A1, n1, k1, rfl, g1⟩
        have hn1 : n1 = (Cl.split xs).length := by have := g1.1.1; rw [List.length_map] at this; exact this.symm
        have B1 := Lib.hid (BW.out.trans (g1.2.2.mono BW.out.size))
        have T2 := Lib.hid (Utf8Tabs_below T1 g1.2.2)
        have HS := Lib.hid g1.1
        have hn1b : n1 ≤ 100 := by omega
        have HN1 := Lib.hid hn1
        clear g1 hn1 c1
        go_wp2
        go_loopg [3, 8] (n1 + 1) (fun gk s3 i wr2 => ∃ (k : Nat) (z : Int), gk + k = n1 + 1 ∧ k ≤ n1 ∧ i = .int .i64 (k : Int) ∧ s3 = .int .i64 z ∧ -1000 ≤ z ∧ z ≤ 1000 ∧ Aside (Below w1.heap.size w1 wr2) ∧ Aside (z = a - Cl.widths ((Cl.split xs).take k)))
        case atStart => exact ⟨0, a, by omega, Nat.zero_le _, rfl, rfl, by omega, by omega, Below.refl _ w1, (by simp [Cl.widths] : a = a - Cl.widths ((Cl.split xs).take 0))⟩
        case round =>
          obtain ⟨k2, z, hg2, hkn2, rfl, rfl, hz1, hz2, BW2, HZ⟩ := hrel
          have T3 := Utf8Tabs_below T2.out BW2.out
          by_cases hlt2 : k2 < n1
          · obtain ⟨g2, hg3⟩ : ∃ g2, gk = g2 + 1 := ⟨gk - 1, by omega⟩
            subst hg3
            have hz2' : (k2 : Int) < (n1 : Int) := by omega
            have hz02 : (0 : Int) ≤ (k2 : Int) := by omega
            obtain ⟨b2, off2, e2, hb2, hc2⟩ := HS.out.2 k2 hlt2
            subst e2
            have hj : k2 < (Cl.split xs).length := by have := HS.out.1; rw [List.length_map] at this; omega
            obtain ⟨g, hgood, hstr, hgd⟩ := split_strW xs k2 hj
            rw [hstr] at hc2
            have hcell : wr.cell? ⟨b2, off2 + k2, none⟩ = some (.string (Cl.str g)) := (BW2.out.cell (p := ⟨b2, off2 + k2, none⟩) hb2).trans hc2
            have hss := Cl.str_size g
            have hgl := hgood.len
            have c2 := widthC_any (Cl.str g) wr (by omega) T3
            have e3 : Cl.widthC (Cl.str g).data.toList = Cl.widthOf g := by rw [Cl.str_data]; exact (Cl.good_parts hgood).2.2.2
            rw [e3] at c2
            have hwt := Cl.widths_take (Cl.split xs) k2 hj
            rw [hgd] at hwt
            have hwb := Cl.widths_bounds ((Cl.split xs).take (k2 + 1))
            have hwl : ((Cl.split xs).take (k2 + 1)).length ≤ k2 + 1 := by rw [List.length_take]; omega
            have hob := Cl.widthOf_bounds g
            have C2 := Lib.hid c2
            have hsz := BW2.out.size
            clear hc2 hstr e3 c2 hss hgl hj hgd
            generalize Cl.str g = s at hcell C2
            generalize Cl.widthOf g = q at C2 hwt hob
            have HWT := Lib.hid hwt
            have hnew : -1000 ≤ z - q ∧ z - q ≤ 1000 := by
              have h1 := HZ.out
              omega
            have HNEW := Lib.hid hnew
            clear hwt hwb hwl hnew
            go_wp2_with fail
            refine C2.out.mono ?_
            rintro e w3 ⟨rfl, b3⟩
            have B3 : Aside (Below w1.heap.size w1 w3) := BW2.out.trans (b3.mono hsz)
            clear hcell b3
            go_wp2
            go_roundg g2
            case measure => omega
            case rel =>
              refine ⟨k2 + 1, z - q, by omega, by omega, by go_num, rfl, HNEW.out.1, HNEW.out.2, B3, ?_⟩
              show z - q = a - Cl.widths ((Cl.split xs).take (k2 + 1))
              rw [HWT.out, HZ.out]
              omega
          · have hz2' : ¬ (k2 : Int) < (n1 : Int) := by omega
            have hzz : z = 0 := by
              have h1 := HZ.out
              rw [List.take_of_length_le (by have := HN1.out; omega), HWD.out] at h1
              omega
            subst hzz
            have cA := Lib.hid (awake_true wr T3)
            have hb4 := B1.out.trans (BW2.out.mono B1.out.size)
            have HB4 := Lib.hid hb4
            clear hb4
            go_wp2_with fail
            refine cA.out.mono ?_
            rintro e w4 ⟨rfl, b4⟩
            go_wp2
            go_ret
            exact ⟨rfl, HB4.out.trans (b4.mono HB4.out.size)⟩

end Go.Proofs.YtjoaaehfplcanaaDoor
