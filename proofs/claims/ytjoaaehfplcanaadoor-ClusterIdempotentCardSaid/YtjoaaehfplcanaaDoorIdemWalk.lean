/-
  The statement on splitting the characters of what was split returns true, for every list of numbers.
-/
import Derived.Test.YtjoaaehfplcanaaDoorAwake
import Derived.Test.YtjoaaehfplcanaaDoorClThree
namespace Go.Proofs.YtjoaaehfplcanaaDoor
open Go.RowKit Go.Shelf

theorem take_join (ss : List ByteArray) (k : Nat) (hk : k < ss.length) : (ss.take (k + 1)).foldl (fun a b => a ++ b) ⟨#[]⟩ = (ss.take k).foldl (fun a b => a ++ b) ⟨#[]⟩ ++ ss.getD k ⟨#[]⟩ := by
  rw [List.take_succ_eq_append_getElem hk, List.foldl_append]
  simp [List.getD_eq_getElem?_getD, hk]

set_option maxHeartbeats 1000000 in
set_option maxRecDepth 100000 in
theorem join_any (A : Option Addr) (n c B : Nat) (ss : List ByteArray) (w : World) (hS : Strs w B A n ss) (hn : n ≤ 1000) (hz : ∀ s ∈ ss, s.size ≤ 1000) :
    Calls Tryd.prog 29 #[.slice A n c] w fun e w' => e = .returned (.string (ss.foldl (fun a b => a ++ b) ⟨#[]⟩)) ∧ w = w' := by
  have HS := Lib.hid hS
  have HZ := Lib.hid hz
  clear hS hz
  go_enter Tryd.func29, Tryd.ntmps29
  go_wp2
  go_loopg [3, 4] (n + 1) (fun gk s3 i wr => ∃ (k : Nat) (x : ByteArray), gk + k = n + 1 ∧ k ≤ n ∧ i = .int .i64 (k : Int) ∧ s3 = .string x ∧ x.size ≤ 1000 * k ∧ w = wr ∧ Aside ((ss.take k).foldl (fun a b => a ++ b) ⟨#[]⟩ = x))
  case atStart => exact ⟨0, ⟨#[]⟩, by omega, Nat.zero_le _, rfl, rfl, by decide, rfl, (rfl : (ss.take 0).foldl (fun a b => a ++ b) ⟨#[]⟩ = _)⟩
  case round =>
    obtain ⟨k, x, hg, hkn, rfl, rfl, hxs, rfl, HX⟩ := hrel
    by_cases hlt : k < n
    · obtain ⟨g', rfl⟩ : ∃ g', gk = g' + 1 := ⟨gk - 1, by omega⟩
      have hzz : (k : Int) < (n : Int) := by omega
      have hz0 : (0 : Int) ≤ (k : Int) := by omega
      have hkx : k < ss.length := by rw [HS.out.1]; exact hlt
      obtain ⟨b, off, rfl, hb, hc⟩ := HS.out.2 k hlt
      have HT := Lib.hid (take_join ss k hkx)
      have hy := HZ.out (ss.getD k ⟨#[]⟩) (by simp [List.getD_eq_getElem?_getD, hkx])
      rw [HX.out] at HT
      generalize ss.getD k ⟨#[]⟩ = y at hc HT hy
      have hcat : (x.size : Int) + (y.size : Int) ≤ 2000000 := by omega
      have hsz : (x ++ y).size ≤ 1000 * (k + 1) := by rw [ByteArray.size_append]; omega
      have HSZ := Lib.hid hsz
      clear HX hsz
      go_wp2
      go_roundg g'
      case measure => omega
      case rel => exact ⟨k + 1, x ++ y, by omega, by omega, by go_num, rfl, HSZ.out, rfl, HT.out⟩
    · have hzz : ¬ (k : Int) < (n : Int) := by omega
      have htk : ss.take k = ss := List.take_of_length_le (by rw [HS.out.1]; omega)
      rw [htk] at HX
      clear htk
      go_wp2
      go_ret
      exact ⟨by rw [HX.out]; rfl, rfl⟩

set_option maxHeartbeats 1000000 in
set_option maxRecDepth 100000 in
theorem idem_walk (A : Option Addr) (n c : Nat) (xs : List Int) (w : World) (hN : Nums w w.heap.size A n xs) (_hnil : A = none → n = 0 ∧ c = 0) (hn : n ≤ 9223372036854775807) (_hrange : ∀ z ∈ xs, -2147483648 ≤ z ∧ z ≤ 2147483647) (hT : Lib.Utf8Tabs 0 1 w) :
    Calls Tryd.prog 7 #[.slice A n c] w fun e w' => e = .returned (.bool true) ∧ Below w.heap.size w w' := by
  by_cases hbig : 100 < n
  · have hbz : (100 : Int) < (n : Int) := by omega
    have cA := Lib.hid (awake_true w hT)
    clear _hrange hN
    go_enter Tryd.func7, Tryd.ntmps7
    go_wp2_with fail
    refine cA.out.mono ?_
    rintro e w1 ⟨rfl, hb⟩
    go_wp2
    go_ret
    exact ⟨rfl, hb⟩
  · have hbz : ¬ (100 : Int) < (n : Int) := by omega
    have hxl := hN.1
    have hlen : (Cl.split xs).length ≤ 100 := by have := Cl.split_len xs; omega
    have htot : (Cl.split xs).flatten.length ≤ 101 := by have := Cl.split_total xs; omega
    have c1 := Lib.hid (split_any A n c w.heap.size xs w (Nat.le_refl _) hN (by omega))
    have hgood := Cl.split_good xs
    have hagain := Cl.split_again_str xs
    have hjoin := Cl.join_data (Cl.split xs)
    have hstz : (Cl.str (Cl.split xs).flatten).size ≤ 404 := by have := Cl.str_size (Cl.split xs).flatten; omega
    have hrun : U8.run (Cl.str (Cl.split xs).flatten).data.toList = ((Cl.split xs).flatten.map U8.fix, []) := by rw [Cl.str_data]; exact U8.run_encL _
    have hsz : ∀ s ∈ (Cl.split xs).map Cl.str, s.size ≤ 1000 := fun s hs => by
      obtain ⟨g, hg, rfl⟩ := List.mem_map.1 hs
      have h1 := Cl.str_size g
      have h2 := (hgood g hg).len
      omega
    have hfl : ((Cl.split xs).flatten.map U8.fix).length ≤ 101 := by rw [List.length_map]; exact htot
    have hsl : ((Cl.split xs).map Cl.str).length ≤ 100 := by rw [List.length_map]; exact hlen
    obtain ⟨ss, hss⟩ : ∃ ss, (Cl.split xs).map Cl.str = ss := ⟨_, rfl⟩
    generalize (Cl.split xs).flatten.map U8.fix = ys at hagain hrun hfl
    rw [hss] at hagain hsz hjoin hsl c1
    generalize Cl.str (Cl.split xs).flatten = J at hjoin hstz hrun
    have HA := Lib.hid hagain
    have HR := Lib.hid hrun
    have HJ := Lib.hid hjoin
    have HZ := Lib.hid hsz
    clear hagain hrun hjoin hsz hss hgood hN _hrange
    go_enter Tryd.func7, Tryd.ntmps7
    go_wp2_with fail
    refine c1.out.mono ?_
    rintro e w1 ⟨A1, n1, k1, rfl, g1⟩
    have b1 := g1.2.2
    have T1 := Utf8Tabs_below hT b1
    have HS1 := Lib.hid g1.1
    have hn1 : n1 ≤ 100 := by have := g1.1.1; omega
    have cJ := join_any A1 n1 k1 _ ss w1 g1.1 (by omega) HZ.out
    rw [HJ.out] at cJ
    have CJ := Lib.hid cJ
    clear g1 c1 cJ
    go_wp2_with fail
    refine CJ.out.mono ?_
    rintro e w2 ⟨rfl, rfl⟩
    go_wp2_with fail
    refine (decode_gives_fresh J w1 (by omega) T1).mono ?_
    rintro e w2 ⟨A2, n2, k2, t2, rfl, ht2, g2⟩
    rw [HR.out] at ht2 g2
    obtain rfl : t2 = ⟨#[]⟩ := ext_bytes ht2
    have T2 := Utf8Tabs_below T1 g2.2.2
    have b2 := b1.trans (g2.2.2.mono b1.size)
    have hn2 : n2 ≤ 101 := by rw [g2.length]; exact hfl
    have HS2 := Lib.hid (HS1.out.below g2.2.2 (Nat.le_refl _))
    have c3 := split_any A2 n2 k2 w2.heap.size ys w2 (Nat.le_refl _) g2.1 (by omega)
    rw [HA.out] at c3
    have C3 := Lib.hid c3
    have s2 := g2.2.2.size
    clear g2 ht2 c3 T1 b1
    go_wp2_with fail
    refine C3.out.mono ?_
    rintro e w3 ⟨A3, n3, k3, rfl, g3⟩
    have T3 := Utf8Tabs_below T2 g3.2.2
    have b3 := b2.trans (g3.2.2.mono b2.size)
    have HS3 := Lib.hid (HS2.out.below g3.2.2 s2)
    have hn3 : n3 ≤ 100 := by have := g3.1.1; omega
    have c4 := Lib.hid (sameS_true A3 A1 n3 n1 k3 k1 _ _ ss w3 (by omega) g3.1 HS3.out)
    clear g3 T2 b2
    go_wp2_with fail
    refine c4.out.mono ?_
    rintro e w4 ⟨rfl, m, rfl⟩
    have T4 : Lib.Utf8Tabs 0 1 (w3.drewN m) := T3
    have b4 := below_drewN b3 m
    generalize w3.drewN m = w4 at T4 b4 ⊢
    have cA := Lib.hid (awake_true w4 T4)
    go_wp2_with fail
    refine cA.out.mono ?_
    rintro e w5 ⟨rfl, b5⟩
    go_wp2
    go_ret
    exact ⟨rfl, b4.trans (b5.mono b4.size)⟩

end Go.Proofs.YtjoaaehfplcanaaDoor
