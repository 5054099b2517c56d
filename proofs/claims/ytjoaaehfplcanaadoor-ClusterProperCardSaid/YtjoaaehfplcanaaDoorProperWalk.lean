/-
  The statement that every element of a Split is a cluster, and how many there are, returns true, for every list of numbers.
-/
import Derived.Test.YtjoaaehfplcanaaDoorAwake
namespace Go.Proofs.YtjoaaehfplcanaaDoor
open Go.RowKit Go.Shelf

theorem take_counts (xs : List Int) (k : Nat) (hk : k < xs.length) : Cl.counts (xs.take (k + 1)) = Cl.count (Cl.counts (xs.take k)) (xs.getD k 0) := by
  rw [Cw.take_succ xs k hk, Cl.counts_snoc]
/-- Every string of a Split is a cluster. -/
theorem split_str (xs : List Int) (j : Nat) (hj : j < (Cl.split xs).length) : ∃ g, Cl.Good g ∧ ((Cl.split xs).map Cl.str).getD j ⟨#[]⟩ = Cl.str g ∧ (Cl.split xs).getD j [] = g := by
  refine ⟨(Cl.split xs)[j], Cl.split_good xs _ (List.getElem_mem hj), ?_, ?_⟩
  · simp [List.getD_eq_getElem?_getD, hj]
  · simp [List.getD_eq_getElem?_getD, hj]

set_option maxHeartbeats 2000000 in
set_option maxRecDepth 100000 in
theorem proper_walk (A : Option Addr) (n c : Nat) (xs : List Int) (w : World) (hN : Nums w w.heap.size A n xs) (_hnil : A = none → n = 0 ∧ c = 0) (hn : n ≤ 9223372036854775807) (_hrange : ∀ z ∈ xs, -2147483648 ≤ z ∧ z ≤ 2147483647) (hT : Lib.Utf8Tabs 0 1 w) :
    Calls Tryd.prog 6 #[.slice A n c] w fun e w' => e = .returned (.bool true) ∧ Below w.heap.size w w' := by
  by_cases hbig : 100 < n
  · have hbz : (100 : Int) < (n : Int) := by omega
    have cA := Lib.hid (awake_true w hT)
    clear _hrange hN
    go_enter Tryd.func6, Tryd.ntmps6
    go_wp2_with fail
    refine cA.out.mono ?_
    rintro e w1 ⟨rfl, hb⟩
    go_wp2
    go_ret
    exact ⟨rfl, hb⟩
  · have hbz : ¬ (100 : Int) < (n : Int) := by omega
    have HN := Lib.hid hN
    clear _hrange hN
    go_enter Tryd.func6, Tryd.ntmps6
    go_wp2
    go_loopg [3, 4, 5] (n + 1) (fun gk s3 s4 i wr => ∃ (k : Nat) (a b : Int), gk + k = n + 1 ∧ k ≤ n ∧ i = .int .i64 (k : Int) ∧ s3 = .int .i64 a ∧ s4 = .int .i64 b ∧ Aside (Below w.heap.size w wr) ∧ Aside (Cl.counts (xs.take k) = (a, b)))
    case atStart => exact ⟨0, 0, 0, by omega, Nat.zero_le _, rfl, rfl, rfl, Below.refl _ w, (rfl : Cl.counts (xs.take 0) = (0, 0))⟩
    case round =>
      obtain ⟨k, a, b, hg, hkn, rfl, rfl, rfl, BW, HC⟩ := hrel
      by_cases hlt : k < n
      · obtain ⟨g', rfl⟩ : ∃ g', gk = g' + 1 := ⟨gk - 1, by omega⟩
        have hz : (k : Int) < (n : Int) := by omega
        have hz0 : (0 : Int) ≤ (k : Int) := by omega
        have hkx : k < xs.length := by rw [HN.out.1]; exact hlt
        obtain ⟨bb, off, rfl, hb, hc⟩ := HN.out.2 k hlt
        have hcell : wr.cell? ⟨bb, off + k, none⟩ = some (.int .i32 (xs.getD k 0)) := (BW.out.cell (p := ⟨bb, off + k, none⟩) hb).trans hc
        have HT := Lib.hid (take_counts xs k hkx)
        obtain ⟨n0, e0, hc0, he1, hn1, _, _⟩ := Cl.counts_facts (xs.take k)
        rw [HC.out] at hc0 HT
        have hl1 : (xs.take k).length ≤ k := by rw [List.length_take]; omega
        have ha : 0 ≤ a ∧ a ≤ 100 := by
          injection hc0 with h1 h2
          omega
        generalize xs.getD k 0 = r at hcell HT hc
        clear hc hc0 HC
        have cM := mark_any r wr
        have hsz := BW.out.size
        cases hr : Cl.isMark r
        · have hr' : Cw.hits Cw.marks r = false := hr
          rw [hr'] at cM
          have cW := fun W => width_any r W
          cases hbs : Cl.isBase r
          · have hw := Cl.other_ctl hr hbs
            rw [hw] at cW
            have HQ : Hid (Cl.count (a, b) r = (a, b)) := Lib.hid (by unfold Cl.count; rw [if_neg (by rw [hr]; simp), if_neg (by rw [hbs]; simp)])
            clear hr hr' hbs hw
            go_wp2_with fail
            refine cM.mono ?_
            rintro e w1 ⟨rfl, b1⟩
            have hcell1 : w1.cell? ⟨bb, off + k, none⟩ = some (.int .i32 r) := (b1.cell (p := ⟨bb, off + k, none⟩) (by show bb < wr.heap.size; omega)).trans hcell
            go_wp2_with fail
            refine (cW w1).mono ?_
            rintro e w2 ⟨rfl, b2⟩
            have B2 : Aside (Below w.heap.size w w2) := (BW.out.trans (b1.mono hsz)).trans (b2.mono (Nat.le_trans hsz b1.size))
            clear hcell hcell1 b1 b2
            go_wp2
            go_roundg g'
            case measure => omega
            case rel => exact ⟨k + 1, a, b, by omega, by omega, by go_num, rfl, rfl, B2, by rw [HT.out, HQ.out]; exact rfl⟩
          · have hw : 0 < Cw.wd r := by unfold Cl.isBase at hbs; simpa using hbs
            obtain ⟨wz, hwz⟩ : ∃ wz, Cw.wd r = wz := ⟨_, rfl⟩
            rw [hwz] at cW hw
            have HQ : Hid (Cl.count (a, b) r = (a + 1, b)) := Lib.hid (by unfold Cl.count; rw [if_neg (by rw [hr]; simp), if_pos hbs])
            clear hr hr' hbs hwz
            go_wp2_with fail
            refine cM.mono ?_
            rintro e w1 ⟨rfl, b1⟩
            have hcell1 : w1.cell? ⟨bb, off + k, none⟩ = some (.int .i32 r) := (b1.cell (p := ⟨bb, off + k, none⟩) (by show bb < wr.heap.size; omega)).trans hcell
            go_wp2_with fail
            refine (cW w1).mono ?_
            rintro e w2 ⟨rfl, b2⟩
            have B2 : Aside (Below w.heap.size w w2) := (BW.out.trans (b1.mono hsz)).trans (b2.mono (Nat.le_trans hsz b1.size))
            clear hcell hcell1 b1 b2
            go_wp2
            go_roundg g'
            case measure => omega
            case rel => exact ⟨k + 1, a + 1, b, by omega, by omega, by go_num, rfl, rfl, B2, by rw [HT.out, HQ.out]; exact rfl⟩
        · have hr' : Cw.hits Cw.marks r = true := hr
          rw [hr'] at cM
          by_cases ha0 : a = 0
          · subst ha0
            have HQ : Hid (Cl.count (0, b) r = (0, 1)) := Lib.hid (by unfold Cl.count; rw [if_pos hr]; rfl)
            clear hr hr'
            go_wp2_with fail
            refine cM.mono ?_
            rintro e w1 ⟨rfl, b1⟩
            have B2 : Aside (Below w.heap.size w w1) := BW.out.trans (b1.mono hsz)
            clear hcell b1
            go_wp2
            go_roundg g'
            case measure => omega
            case rel => exact ⟨k + 1, 0, 1, by omega, by omega, by go_num, rfl, rfl, B2, by rw [HT.out, HQ.out]; exact rfl⟩
          · have hab : (a == 0) = false := by simpa using ha0
            have HQ : Hid (Cl.count (a, b) r = (a, b)) := Lib.hid (by unfold Cl.count; rw [if_pos hr]; simp [ha0])
            clear hr hr'
            go_wp2_with fail
            refine cM.mono ?_
            rintro e w1 ⟨rfl, b1⟩
            have B2 : Aside (Below w.heap.size w w1) := BW.out.trans (b1.mono hsz)
            clear hcell b1
            go_wp2
            go_roundg g'
            case measure => omega
            case rel => exact ⟨k + 1, a, b, by omega, by omega, by go_num, rfl, rfl, B2, by rw [HT.out, HQ.out]; exact rfl⟩
      · have hz : ¬ (k : Int) < (n : Int) := by omega
        have htk : xs.take k = xs := List.take_of_length_le (by rw [HN.out.1]; omega)
        rw [htk] at HC
        obtain ⟨n0, e0, hc0, he1, hn1, hlen, _⟩ := Cl.counts_facts xs
        rw [HC.out] at hc0
        have hxl := HN.out.1
        obtain ⟨rfl, rfl⟩ : a = (n0 : Int) ∧ b = (e0 : Int) := by injection hc0 with h1 h2; exact ⟨h1, h2⟩
        have HLN := Lib.hid hlen
        have hn0 : n0 ≤ 100 := by omega
        have c1 := Lib.hid (split_any A n c w.heap.size xs wr BW.out.size (HN.out.below BW.out (Nat.le_refl _)) (by omega))
        have T1 := Utf8Tabs_below hT BW.out
        clear hc0 HC htk hlen hxl
        go_wp2_with fail
        refine c1.out.mono ?_
        rintro e w1 ⟨A1, n1, k1, rfl, g1⟩
        have hn1 : n1 = n0 + e0 := by have := g1.1.1; rw [List.length_map, HLN.out] at this; exact this.symm
        have B1 := Lib.hid (BW.out.trans (g1.2.2.mono BW.out.size))
        have T2 := Lib.hid (Utf8Tabs_below T1 g1.2.2)
        have HS := Lib.hid g1.1
        have hn1b : n1 ≤ 101 := by omega
        have HN1 := Lib.hid hn1
        clear g1 hn1 c1
        go_wp2
        go_loopg [7] (n1 + 1) (fun gk i wr2 => ∃ k : Nat, gk + k = n1 + 1 ∧ k ≤ n1 ∧ i = .int .i64 (k : Int) ∧ Aside (Below w1.heap.size w1 wr2))
        case atStart => exact ⟨0, by omega, Nat.zero_le _, rfl, Below.refl _ w1⟩
        case round =>
          obtain ⟨k2, hg2, hkn2, rfl, BW2⟩ := hrel
          have T3 := Utf8Tabs_below T2.out BW2.out
          by_cases hlt2 : k2 < n1
          · obtain ⟨g2, hg3⟩ : ∃ g2, gk = g2 + 1 := ⟨gk - 1, by omega⟩
            subst hg3
            have hz2 : (k2 : Int) < (n1 : Int) := by omega
            have hz02 : (0 : Int) ≤ (k2 : Int) := by omega
            obtain ⟨b2, off2, e2, hb2, hc2⟩ := HS.out.2 k2 hlt2
            subst e2
            have hj : k2 < (Cl.split xs).length := by have := HS.out.1; rw [List.length_map] at this; omega
            obtain ⟨g, hgood, hstr, _⟩ := split_str xs k2 hj
            rw [hstr] at hc2
            have hcell : wr.cell? ⟨b2, off2 + k2, none⟩ = some (.string (Cl.str g)) := (BW2.out.cell (p := ⟨b2, off2 + k2, none⟩) hb2).trans hc2
            have hss := Cl.str_size g
            have hgl := hgood.len
            have c2 := check_any (Cl.str g) wr (by omega) T3
            have e3 : Cl.chk (Cl.str g).data.toList = 0 := by rw [Cl.str_data]; exact (Cl.chk_good hgood).1
            rw [e3] at c2
            have C2 := Lib.hid c2
            have hsz := BW2.out.size
            clear hc2 hstr e3 c2 hss hgl hj
            generalize Cl.str g = s at hcell C2
            go_wp2_with fail
            refine C2.out.mono ?_
            rintro e w3 ⟨rfl, b3⟩
            have B3 : Aside (Below w1.heap.size w1 w3) := BW2.out.trans (b3.mono hsz)
            clear hcell b3
            go_wp2
            go_roundg g2
            case measure => omega
            case rel => exact ⟨k2 + 1, by omega, by omega, by go_num, B3⟩
          · have hz2 : ¬ (k2 : Int) < (n1 : Int) := by omega
            have hn2 := HN1.out
            have hzz : ((n1 : Int) == (n0 : Int) + (e0 : Int)) = true := by simp; omega
            have cA := Lib.hid (awake_true wr T3)
            have hb4 := B1.out.trans (BW2.out.mono B1.out.size)
            have HB4 := Lib.hid hb4
            clear hb4 hn2
            go_wp2_with fail
            refine cA.out.mono ?_
            rintro e w4 ⟨rfl, b4⟩
            go_wp2
            go_ret
            exact ⟨rfl, HB4.out.trans (b4.mono HB4.out.size)⟩

end Go.Proofs.YtjoaaehfplcanaaDoor
