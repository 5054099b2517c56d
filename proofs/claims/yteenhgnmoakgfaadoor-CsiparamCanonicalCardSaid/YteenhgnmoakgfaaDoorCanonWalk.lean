/-
  The statement that what is parsed can be formatted, without leading zeros, and is then parsed as the same returns true, for every string.
-/
import Derived.Test.YteenhgnmoakgfaaDoorSyntaxWalk
namespace Go.Proofs.YteenhgnmoakgfaaDoor
open Go.RowKit Go.Shelf

set_option maxHeartbeats 1000000 in
set_option maxRecDepth 100000 in
theorem canon_walk (s : ByteArray) (w : World) (hs : s.size ≤ 140737488351232) (hP : Pw w) :
    Calls Tryd.prog 6 #[.string s] w fun e w' => e = .returned (.bool true) ∧ Below w.heap.size w w' := by
  by_cases hbig : 200 < s.size
  · have hbz : (200 : Int) < (s.size : Int) := by omega
    have cA := Lib.hid (awake_true w hP)
    go_enter Tryd.func6, Tryd.ntmps6
    go_wp2_with fail
    refine cA.out.mono ?_
    rintro e w1 ⟨rfl, hb⟩
    go_wp2
    go_ret
    exact ⟨rfl, hb⟩
  · have hbz : ¬ (200 : Int) < (s.size : Int) := by omega
    obtain ⟨p, ps, i, er, hp⟩ : ∃ p ps i er, Cp.parse s.data.toList = (p, ps, i, er) := ⟨_, _, _, _, rfl⟩
    have c1 := Lib.hid (parse_any s w (by omega) hp)
    by_cases he : er = 0
    · subst he
      obtain ⟨l, hf, hp2, hcan⟩ := Cp.fmt_parse hp
      obtain ⟨h16, h2, hr⟩ := Cp.parse_len hp
      have hsl := Lib.size_eq s
      have hll : l.length ≤ s.size := by rw [hsl]; exact hcan.1
      have HF := Lib.hid hf
      have HP2 := Lib.hid hp2
      have HC := Lib.hid hcan
      have HR := Lib.hid hr
      have HSL := Lib.hid hsl
      clear hf hp2 hcan hp hr hsl
      go_enter Tryd.func6, Tryd.ntmps6
      go_wp2_with fail
      refine c1.out.mono ?_
      rintro e w1 ⟨A1, n1, k1, u, rfl, hu, g1⟩
      have b1 := g1.2.2
      have P1 := hP.below b1
      have hn1 : n1 ≤ 16 := by rw [g1.length]; exact h16
      have hus : u.size ≤ 2 := by rw [Lib.size_eq, hu]; exact h2
      have c2 := Lib.hid (format_any p A1 n1 k1 w1.heap.size ps u w1 (Nat.le_refl _) g1.1 (by omega) (by omega) P1 (fun z hz => by have := HR.out z hz; omega) (show Cp.fmt p ps u.data.toList = (l, 0) by rw [hu]; exact HF.out))
      have G1 := Lib.hid g1.1
      have HU := Lib.hid hu
      clear g1 c1 hu
      go_wp2_with fail
      refine c2.out.mono ?_
      rintro e w2 ⟨t, rfl, ht, b2⟩
      have hts : t.size ≤ s.size := by rw [Lib.size_eq t, ht]; exact hll
      have c3 := Lib.hid (parse_any t w2 (by omega) (show Cp.parse t.data.toList = (p, ps, i, 0) by rw [ht]; exact HP2.out))
      have P2 := P1.below b2
      have B2 := Lib.hid (b1.trans (b2.mono b1.size))
      have G2 := Lib.hid (G1.out.below b2 (Nat.le_refl _) |>.more b2.size)
      have HTE : Hid (t.size = s.size → t = s) := Lib.hid (fun e => ext_bytes (by
        rw [ht]
        refine HC.out.2 ?_
        rw [← ht, ← Lib.size_eq, ← Lib.size_eq]
        exact e))
      clear c2 ht b1 b2 P1 G1 HC HF HP2
      go_wp2_with fail
      refine c3.out.mono ?_
      rintro e w3 ⟨A3, n3, k3, v, rfl, hv, g3⟩
      obtain rfl : v = u := ext_bytes (by rw [hv, HU.out])
      have P3 := P2.below g3.2.2
      have B3 := Lib.hid (B2.out.trans (g3.2.2.mono B2.out.size))
      have c4 := Lib.hid (same_yes A1 A3 n1 n3 k1 k3 w2.heap.size w3.heap.size ps w3 (by omega) (G2.out.below g3.2.2 (Nat.le_refl _)) g3.1)
      clear c3 hv g3 B2 P2 G2
      have htz : (t.size : Int) ≤ (s.size : Int) := by omega
      go_wp2_with fail
      refine c4.out.mono ?_
      rintro e w4 ⟨rfl, b4⟩
      have P4 := P3.below b4
      have B4 := Lib.hid (B3.out.trans (b4.mono B3.out.size))
      clear c4 b4 B3 P3
      have cA := Lib.hid (awake_true w4 P4)
      by_cases hlt : t.size < s.size
      · have hltz : (t.size : Int) < (s.size : Int) := by omega
        go_wp2_with fail
        refine cA.out.mono ?_
        rintro e w5 ⟨rfl, b5⟩
        go_wp2
        go_ret
        exact ⟨rfl, B4.out.trans (b5.mono B4.out.size)⟩
      · obtain rfl : t = s := HTE.out (by omega)
        have hltz : ¬ (t.size : Int) < (t.size : Int) := by omega
        go_wp2_with fail
        refine cA.out.mono ?_
        rintro e w5 ⟨rfl, b5⟩
        go_wp2
        go_ret
        exact ⟨rfl, B4.out.trans (b5.mono B4.out.size)⟩
    · obtain ⟨rfl, rfl, rfl⟩ := Cp.parse_err hp he
      have hez : (er != 0) = true := by simpa using he
      clear hp
      go_enter Tryd.func6, Tryd.ntmps6
      go_wp2_with fail
      refine c1.out.mono ?_
      rintro e w1 ⟨A1, n1, k1, u, rfl, hu, g1⟩
      obtain rfl : u = ⟨#[]⟩ := ext_bytes hu
      obtain rfl : n1 = 0 := g1.length
      have b1 := g1.2.2
      have cA := Lib.hid (awake_true w1 (hP.below b1))
      clear g1 c1 hu
      go_wp2_with fail
      refine cA.out.mono ?_
      rintro e w2 ⟨rfl, b2⟩
      go_wp2
      go_ret
      exact ⟨rfl, b1.trans (b2.mono b1.size)⟩

end Go.Proofs.YteenhgnmoakgfaaDoor
