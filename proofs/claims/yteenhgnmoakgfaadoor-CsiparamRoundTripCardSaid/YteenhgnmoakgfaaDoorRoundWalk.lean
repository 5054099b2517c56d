/-
  The statement that what is formatted is parsed as the same returns true, for all arguments.
-/
import Derived.Test.YteenhgnmoakgfaaDoorAwake
namespace Go.Proofs.YteenhgnmoakgfaaDoor
open Go.RowKit Go.Shelf

theorem byte_of (x : Int) (h0 : 0 ≤ x) (h1 : x ≤ 255) : ∃ p : UInt8, x = (p.toNat : Int) :=
  ⟨UInt8.ofNat x.toNat, by rw [UInt8.toNat_ofNat']; omega⟩
theorem Pw.later {w w' : World} (h : Pw w) (hb : Below w.heap.size w w') : Pw w' := h.below hb

set_option maxHeartbeats 1000000 in
set_option maxRecDepth 100000 in
theorem round_walk (x : Int) (A : Option Addr) (n c : Nat) (ps : List Int) (i : ByteArray) (w : World) (x0 : 0 ≤ x) (x1 : x ≤ 255) (hX : Nums w w.heap.size A n ps) (_hnil : A = none → n = 0 ∧ c = 0) (hn : n ≤ 9223372036854775807) (hr : ∀ z ∈ ps, -9223372036854775808 ≤ z ∧ z ≤ 9223372036854775807) (hi : i.size ≤ 140737488351232) (hP : Pw w) :
    Calls Tryd.prog 5 #[.int .u8 x, .slice A n c, .string i] w fun e w' => e = .returned (.bool true) ∧ Below w.heap.size w w' := by
  by_cases hbig : 40 < n
  · have hbz : (40 : Int) < (n : Int) := by omega
    have cA := Lib.hid (awake_true w hP)
    clear hr hX
    go_enter Tryd.func5, Tryd.ntmps5
    go_wp2_with fail
    refine cA.out.mono ?_
    rintro e w1 ⟨rfl, hb⟩
    go_wp2
    go_ret
    exact ⟨rfl, hb⟩
  · have hbz : ¬ (40 : Int) < (n : Int) := by omega
    by_cases hbi : 20 < i.size
    · have hbiz : (20 : Int) < (i.size : Int) := by omega
      have cA := Lib.hid (awake_true w hP)
      clear hr hX
      go_enter Tryd.func5, Tryd.ntmps5
      go_wp2_with fail
      refine cA.out.mono ?_
      rintro e w1 ⟨rfl, hb⟩
      go_wp2
      go_ret
      exact ⟨rfl, hb⟩
    · have hbiz : ¬ (20 : Int) < (i.size : Int) := by omega
      obtain ⟨p, rfl⟩ := byte_of x x0 x1
      obtain ⟨l, er, hf⟩ : ∃ l er, Cp.fmt p ps i.data.toList = (l, er) := ⟨_, _, rfl⟩
      have c1 := Lib.hid (format_any p A n c w.heap.size ps i w (Nat.le_refl _) hX (by omega) (by omega) hP hr hf)
      by_cases he : er = 0
      · subst he
        have hpf := Cp.parse_fmt (p := p) (ps := ps) (i := i.data.toList) (by rw [hf])
        rw [hf] at hpf
        simp only at hpf
        have HPF := Lib.hid hpf
        have HX := Lib.hid hX
        have hlx : ps.length ≤ 40 := by have := hX.1; omega
        have hll : l.length ≤ 400 := by
          obtain ⟨_, ho, e⟩ := Cp.fmt_ok (p := p) (ps := ps) (i := i.data.toList) (by rw [hf])
          rw [hf] at e
          simp only at e
          obtain ⟨h5, h6, _⟩ := Cp.over_le ho
          have h1 := Cp.bd_len false ps (fun z hz => num_len z (hr z hz).1 (hr z hz).2)
          have h2 : (Cp.hd p).length ≤ 1 := by unfold Cp.hd; split <;> simp
          rw [e]
          simp only [List.length_append]
          omega
        clear hr hX hf hpf
        go_enter Tryd.func5, Tryd.ntmps5
        go_wp2_with fail
        refine c1.out.mono ?_
        rintro e w1 ⟨t, rfl, ht, b1⟩
        have c2 := Lib.hid (parse_any t w1 (by rw [Lib.size_eq, ht]; omega) (show Cp.parse t.data.toList = (p, ps, i.data.toList, 0) by rw [ht]; exact HPF.out))
        have P1 := hP.below b1
        clear ht c1
        go_wp2_with fail
        refine c2.out.mono ?_
        rintro e w2 ⟨A2, n2, k2, u, rfl, hu, g2⟩
        obtain rfl : u = i := ext_bytes hu
        have P2 := P1.below g2.2.2
        have b2 := b1.trans (g2.2.2.mono b1.size)
        have c3 := Lib.hid (same_yes A2 A n2 n k2 c w2.heap.size w.heap.size ps w2 (by omega) g2.1 (HX.out.below b2 (Nat.le_refl _)))
        clear hu g2 c2 b1 P1
        go_wp2_with fail
        refine c3.out.mono ?_
        rintro e w3 ⟨rfl, b3⟩
        have cA := Lib.hid (awake_true w3 (P2.below b3))
        have b4 := b2.trans (b3.mono b2.size)
        clear b2 b3 c3
        go_wp2_with fail
        refine cA.out.mono ?_
        rintro e w4 ⟨rfl, b5⟩
        go_wp2
        go_ret
        exact ⟨rfl, b4.trans (b5.mono b4.size)⟩
      · have hl0 : l = [] := by
          have := Cp.fmt_err (p := p) (ps := ps) (i := i.data.toList) (by rw [hf]; exact he)
          rw [hf] at this
          exact this
        subst hl0
        have hez : (er != 0) = true := by simpa using he
        clear hr hX hf
        go_enter Tryd.func5, Tryd.ntmps5
        go_wp2_with fail
        refine c1.out.mono ?_
        rintro e w1 ⟨t, rfl, ht, b1⟩
        obtain rfl : t = ⟨#[]⟩ := ext_bytes ht
        clear ht
        have cA := Lib.hid (awake_true w1 (hP.below b1))
        go_wp2_with fail
        refine cA.out.mono ?_
        rintro e w2 ⟨rfl, b2⟩
        go_wp2
        go_ret
        exact ⟨rfl, b1.trans (b2.mono b1.size)⟩

end Go.Proofs.YteenhgnmoakgfaaDoor
