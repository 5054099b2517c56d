/-
  The statement on decoding what was encoded returns true, for every list of numbers.
-/
import Derived.Test.YtbhhadifhojlbaaDoorEncWalk
namespace Go.Proofs.YtbhhadifhojlbaaDoor
open Go.RowKit Go.Shelf

theorem take_fix (xs : List Int) (k : Nat) (h : k < xs.length) : (xs.take (k + 1)).map U8.fix = (xs.take k).map U8.fix ++ [U8.fix (xs.getD k 0)] := by
  rw [List.take_succ_eq_append_getElem h, List.map_append]
  simp [h]

set_option maxHeartbeats 1000000 in
set_option maxRecDepth 100000 in
theorem round_walk (A : Option Addr) (n c : Nat) (xs : List Int) (w : World) (hN : Nums w w.heap.size A n xs) (_hnil : A = none → n = 0 ∧ c = 0) (hn : n ≤ 9223372036854775807) (hrange : ∀ z ∈ xs, -2147483648 ≤ z ∧ z ≤ 2147483647) (hT : Lib.Utf8Tabs 0 1 w) :
    Calls Tryd.prog 6 #[.slice A n c] w fun e w' => e = .returned (.bool true) ∧ Below w.heap.size w w' := by
  by_cases hbig : 100 < n
  · have hbz : (100 : Int) < (n : Int) := by omega
    have cA := Lib.hid (awake_true w hT)
    clear hrange
    go_enter Tryd.func6, Tryd.ntmps6
    go_wp2_with fail
    refine cA.out.mono ?_
    rintro e w1 ⟨rfl, hb⟩
    go_wp2
    go_ret
    exact ⟨rfl, hb⟩
  · have hbz : ¬ (100 : Int) < (n : Int) := by omega
    have hxl : xs.length = n := hN.1
    have HXL := Lib.hid hxl
    have HR := Lib.hid hrange
    clear hxl hrange
    go_enter Tryd.func6, Tryd.ntmps6
    go_wp2
    go_loopg [3, 16] (n + 1) (fun gk v i wr => ∃ k : Nat, gk + k = n + 1 ∧ k ≤ n ∧ i = .int .i64 (k : Int) ∧ Out w wr v ((xs.take k).map U8.fix))
    case atStart => exact ⟨0, by omega, Nat.zero_le _, rfl, Out.laid w⟩
    case round =>
      obtain ⟨k, hg, hkn, rfl, hout⟩ := hrel
      by_cases hlt : k < n
      · obtain ⟨g', rfl⟩ : ∃ g', gk = g' + 1 := ⟨gk - 1, by omega⟩
        have hz : (k : Int) < (n : Int) := by omega
        have hkx : k < xs.length := by rw [HXL.out]; exact hlt
        obtain ⟨b, off, rfl, hb, hc⟩ := hN.2 k hlt
        have hcell : wr.cell? ⟨b, off + k, none⟩ = some (.int .i32 (xs.getD k 0)) := (hout.2.cell (p := ⟨b, off + k, none⟩) hb).trans hc
        have hrz : -2147483648 ≤ xs.getD k 0 ∧ xs.getD k 0 ≤ 2147483647 := HR.out _ (by simp [hkx])
        have htf := take_fix xs k hkx
        have hol : ((xs.take k).map U8.fix).length ≤ 100 := by simp; omega
        generalize xs.getD k 0 = z at hcell hrz htf hc
        have HTF := Lib.hid htf
        clear htf hc hN
        generalize (xs.take k).map U8.fix = ys at hout hol HTF
        go_wp2_with (at_builtin; refine wpList_push rfl (.tmp 34) (.tmp 36) rfl w wr _ ys _ rfl rfl hout (by omega) ?_; intro v1 w1 hout1)
        all_goals
          go_roundg g'
          case measure => omega
          case rel =>
            first
              | (have e : U8.fix z = 65533 := (by unfold U8.fix; rw [if_pos (by omega)]); exact ⟨k + 1, by omega, by omega, by go_num, by rw [HTF.out, e]; exact hout1⟩)
              | (have e : U8.fix z = z := (by unfold U8.fix; rw [if_neg (by omega)]); exact ⟨k + 1, by omega, by omega, by go_num, by rw [HTF.out, e]; exact hout1⟩)
      · have hz : ¬ (k : Int) < (n : Int) := by omega
        have hkk : k = n := by omega
        have htk : xs.take k = xs := List.take_of_length_le (by rw [HXL.out]; omega)
        rw [htk] at hout
        obtain ⟨A3, n3, c3, hv3, m3⟩ := hout.reads
        subst hv3
        have b1 := hout.2
        have T1 := Utf8Tabs_below hT b1
        have m1 : Nums wr w.heap.size A n xs := hN.below b1 (Nat.le_refl _)
        have cE := encode_any A n c w.heap.size xs wr m1
        have hEs := runesBytes_size_le xs
        have hEl := U8.bytes_encL xs
        have hrun := U8.run_encL xs
        rw [← hEl] at hrun
        have hval := U8.valid_encL xs
        rw [← hEl] at hval
        have hxl := HXL.out
        generalize runesBytes xs = E at cE hEs hrun hval
        have CE := Lib.hid cE
        have HRun := Lib.hid (And.intro hrun hval)
        clear cE hrun hval hEl htk hout hN m1 hxl
        go_wp2_with fail
        refine CE.out.mono ?_
        rintro e w1 ⟨rfl, rfl⟩
        have hEz : E.size ≤ 400 := by have := HXL.out; omega
        go_wp2_with fail
        refine (decode_gives_fresh E wr (by omega) T1).mono ?_
        rintro e w2 ⟨A2, n2, c2, t2, rfl, ht2, g2⟩
        rw [HRun.out.1] at ht2 g2
        obtain rfl : t2 = ⟨#[]⟩ := ext_bytes ht2
        have T2 := Utf8Tabs_below T1 g2.2.2
        have b2 : Below w.heap.size w w2 := b1.trans (g2.2.2.mono b1.size)
        have m2 := g2.1
        have m4 : Nums w2 wr.heap.size A3 n3 (xs.map U8.fix) := m3.below g2.2.2 (Nat.le_refl _)
        obtain rfl : n3 = n2 := m4.1.symm.trans m2.1
        have z3 : n3 ≤ 100 := by rw [← m4.1, List.length_map, HXL.out]; omega
        clear g2 ht2 T1 m3
        go_wp2_with fail
        refine (same_true A2 A3 n3 c2 c3 _ _ (xs.map U8.fix) w2 (by omega) m2 m4).mono ?_
        rintro e w3 ⟨rfl, m, rfl⟩
        have T3 : Lib.Utf8Tabs 0 1 (w2.drewN m) := T2
        have b3 := below_drewN b2 m
        generalize w2.drewN m = w3 at T3 b3 ⊢
        clear m2 m4 T2
        have cV := valid_any E w3 (by omega) T3
        rw [HRun.out.2] at cV
        have CV := Lib.hid cV
        clear cV
        go_wp2_with fail
        refine CV.out.mono ?_
        rintro e w4 ⟨rfl, b4⟩
        have T4 := Utf8Tabs_below T3 b4
        have b5 : Below w.heap.size w w4 := b3.trans (b4.mono b3.size)
        have cA := Lib.hid (awake_true w4 T4)
        go_wp2_with fail
        refine cA.out.mono ?_
        rintro e w5 ⟨rfl, hb5⟩
        go_wp2
        go_ret
        exact ⟨rfl, b5.trans (hb5.mono b5.size)⟩

end Go.Proofs.YtbhhadifhojlbaaDoor
