/-
  The statement on strings that are no body returns true, for all arguments.
-/
import Derived.Test.YteenhgnmoakgfaaDoorAwake
import Derived.Test.YteenhgnmoakgfaaDoorCpMore
namespace Go.Proofs.YteenhgnmoakgfaaDoor
open Go.RowKit Go.Shelf

/-- Parse of a string that is no body. -/
theorem parse_syntax (s : ByteArray) (w : World) (hs : s.size ≤ 500) (h : Cp.parse s.data.toList = (0, [], [], 3)) :
    Calls Tryd.prog 13 #[.string s] w fun e w' => ∃ A cap, e = .returned (.tuple #[.int .u8 0, .slice A 0 cap, .string ⟨#[]⟩, .int .i64 3]) ∧ Below w.heap.size w w' := by
  refine (parse_any s w hs h).mono ?_
  rintro e w' ⟨A, n, cap, t, rfl, ht, g⟩
  obtain rfl : t = ⟨#[]⟩ := ext_bytes ht
  obtain rfl : n = 0 := g.length
  exact ⟨A, cap, rfl, g.2.2⟩
theorem byte_of (x : Int) (h0 : 0 ≤ x) (h1 : x ≤ 255) : ∃ p : UInt8, x = (p.toNat : Int) :=
  ⟨UInt8.ofNat x.toNat, by rw [UInt8.toNat_ofNat']; omega⟩
theorem app_bytes (a b : ByteArray) : (a ++ b).data.toList = a.data.toList ++ b.data.toList := by simp [ByteArray.data_append]
theorem u8_string (W : World) (c : Int) (p : UInt8) (h : c = (p.toNat : Int)) : (convert 34 9 (.slice (some ⟨W.heap.size, 0, none⟩) 1 1)).run Tryd.prog (W.alloc (.cells #[.int .u8 c] 5)) = .ok (.string ⟨#[p]⟩) (W.alloc (.cells #[.int .u8 c] 5)) := by
  subst h
  refine run_convert_bytes_back (P := Tryd.prog) _ 34 9 5 ⟨W.heap.size, 0, none⟩ 1 [p] Tryd.underlying34 Tryd.underlying5 Tryd.underlying9 ?_
  intro j hj
  obtain rfl : j = 0 := by simp at hj; omega
  have e : (W.alloc (.cells #[.int .u8 (p.toNat : Int)] 5)).heap[W.heap.size]? = some (.cells #[.int .u8 (p.toNat : Int)] 5) := heap_alloc_new W _
  exact cell_of_row _ _ 0 _ _ _ e

theorem no_five (b : List UInt8) : ((32 : UInt8) :: 53 :: b).all Cp.isMid = false := by
  have h1 : Cp.isMid 32 = true := by decide
  have h2 : Cp.isMid 53 = false := by decide
  simp [h2]
theorem other_byte (p : UInt8) (h : ¬ (32 ≤ p.toNat ∧ p.toNat ≤ 63 ∧ p.toNat ≠ 58)) : Cp.isMk p = false ∧ Cp.isPar p = false ∧ Cp.isMid p = false := by
  have e : (p == 59) = decide (p.toNat = 59) := by
    by_cases h1 : p = 59
    · subst h1; rfl
    · have : p.toNat ≠ 59 := fun e => h1 (UInt8.toNat_inj.1 e)
      simp [h1, this]
  unfold Cp.isMk Cp.isPar Cp.isMid
  rw [e]
  refine ⟨?_, ?_, ?_⟩ <;> simp <;> omega

set_option maxHeartbeats 1000000 in
set_option maxRecDepth 100000 in
theorem syntax_walk (a b : ByteArray) (x : Int) (w : World) (ha : a.size ≤ 140737488351232) (hb : b.size ≤ 140737488351232) (x0 : 0 ≤ x) (x1 : x ≤ 255) (hP : Pw w) :
    Calls Tryd.prog 10 #[.string a, .string b, .int .u8 x] w fun e w' => e = .returned (.bool true) ∧ Below w.heap.size w w' := by
  by_cases hbig : 200 < a.size + b.size
  · have hbz : (200 : Int) < (a.size : Int) + (b.size : Int) := by omega
    have cA := Lib.hid (awake_true w hP)
    go_enter Tryd.func10, Tryd.ntmps10
    go_wp2_with fail
    refine cA.out.mono ?_
    rintro e w1 ⟨rfl, hb⟩
    go_wp2
    go_ret
    exact ⟨rfl, hb⟩
  · have hbz : ¬ (200 : Int) < (a.size : Int) + (b.size : Int) := by omega
    obtain ⟨p, rfl⟩ := byte_of x x0 x1
    obtain ⟨s1, hs1⟩ : ∃ s1 : ByteArray, a ++ ⟨#[32]⟩ ++ ⟨#[53]⟩ ++ b = s1 := ⟨_, rfl⟩
    have hd1 : s1.data.toList = a.data.toList ++ 32 :: 53 :: b.data.toList := by
      rw [← hs1]
      simp only [app_bytes]
      simp
    have hz1 : s1.size ≤ 500 := by
      rw [Lib.size_eq, hd1]
      have h1 := Lib.size_eq a
      have h2 := Lib.size_eq b
      simp only [List.length_append, List.length_cons]
      omega
    have c1 := Lib.hid (parse_syntax s1 w hz1 (by rw [hd1]; exact Cp.parse_bad _ _ 32 (by decide) (by decide) (no_five _)))
    have n1 : ¬ 9223372036854775807 < a.size + 1 := by omega
    clear hd1
    go_enter Tryd.func10, Tryd.ntmps10
    go_wp2_with fail
    refine c1.out.mono ?_
    rintro e w1 ⟨A1, k1, rfl, b1⟩
    have P1 := hP.below b1
    clear hs1 c1 n1
    have cA := Lib.hid (awake_true w1 P1)
    by_cases hin : 32 ≤ p.toNat ∧ p.toNat ≤ 63 ∧ p.toNat ≠ 58
    · have h1 : (32 : Int) ≤ (p.toNat : Int) := by omega
      have h2 : (p.toNat : Int) ≤ 63 := by omega
      have h3 : ((p.toNat : Int) != 58) = true := by simp; omega
      go_wp2_with fail
      refine cA.out.mono ?_
      rintro e w2 ⟨rfl, b2⟩
      go_wp2
      go_ret
      exact ⟨rfl, b1.trans (b2.mono b1.size)⟩
    · clear cA
      obtain ⟨o1, o2, o3⟩ := other_byte p hin
      obtain ⟨s2, hs2⟩ : ∃ s2 : ByteArray, a ++ ⟨#[p]⟩ ++ b = s2 := ⟨_, rfl⟩
      have hd2 : s2.data.toList = a.data.toList ++ p :: b.data.toList := by
        rw [← hs2]
        simp only [app_bytes]
        simp
      have hz2 : s2.size ≤ 500 := by
        rw [Lib.size_eq, hd2]
        have h1 := Lib.size_eq a
        have h2 := Lib.size_eq b
        simp only [List.length_append, List.length_cons]
        omega
      have c2 := Lib.hid (fun W => parse_syntax s2 W hz2 (by rw [hd2]; exact Cp.parse_bad _ _ p o1 o2 (by rw [List.all_cons, o3]; rfl)))
      have hcv := u8_string w1 (p.toNat : Int) p rfl
      have n1 : ¬ 9223372036854775807 < a.size + 1 := by omega
      have n2 : ¬ 9223372036854775807 < a.size + 1 + b.size := by omega
      have bA : Below w.heap.size w (w1.alloc (.cells #[.int .u8 (p.toNat : Int)] 5)) := b1.alloc b1.size _
      have PA : Pw (w1.alloc (.cells #[.int .u8 (p.toNat : Int)] 5)) := hP.below bA
      have BA := Lib.hid bA
      clear hd2 o1 o2 o3 bA
      by_cases h1 : 32 ≤ p.toNat
      · have h1z : (32 : Int) ≤ (p.toNat : Int) := by omega
        by_cases h2 : p.toNat ≤ 63
        · have h2z : (p.toNat : Int) ≤ 63 := by omega
          have h3z : ((p.toNat : Int) != 58) = false := by
            simp only [bne_eq_false_iff_eq]
            omega
          go_wp2_with fail
          refine (c2.out _).mono ?_
          rintro e w2 ⟨A2, k2, rfl, b2⟩
          have P2 := PA.below b2
          have B2 := Lib.hid (BA.out.trans (b2.mono BA.out.size))
          clear hs2 c2 n1 n2 hcv PA BA b2
          have cA := Lib.hid (awake_true w2 P2)
          go_wp2_with fail
          refine cA.out.mono ?_
          rintro e w3 ⟨rfl, b3⟩
          go_wp2
          go_ret
          exact ⟨rfl, B2.out.trans (b3.mono B2.out.size)⟩
        · have h2z : ¬ (p.toNat : Int) ≤ 63 := by omega
          go_wp2_with fail
          refine (c2.out _).mono ?_
          rintro e w2 ⟨A2, k2, rfl, b2⟩
          have P2 := PA.below b2
          have B2 := Lib.hid (BA.out.trans (b2.mono BA.out.size))
          clear hs2 c2 n1 n2 hcv PA BA b2
          have cA := Lib.hid (awake_true w2 P2)
          go_wp2_with fail
          refine cA.out.mono ?_
          rintro e w3 ⟨rfl, b3⟩
          go_wp2
          go_ret
          exact ⟨rfl, B2.out.trans (b3.mono B2.out.size)⟩
      · have h1z : ¬ (32 : Int) ≤ (p.toNat : Int) := by omega
        go_wp2_with fail
        refine (c2.out _).mono ?_
        rintro e w2 ⟨A2, k2, rfl, b2⟩
        have P2 := PA.below b2
        have B2 := Lib.hid (BA.out.trans (b2.mono BA.out.size))
        clear hs2 c2 n1 n2 hcv PA BA b2
        have cA := Lib.hid (awake_true w2 P2)
        go_wp2_with fail
        refine cA.out.mono ?_
        rintro e w3 ⟨rfl, b3⟩
        go_wp2
        go_ret
        exact ⟨rfl, B2.out.trans (b3.mono B2.out.size)⟩

end Go.Proofs.YteenhgnmoakgfaaDoor
