/-
  What the document's own decimal returns, for every number from 0 to 9999.
-/
import Derived.Test.YteenhgnmoakgfaaDoorSyntaxWalk
namespace Go.Proofs.YteenhgnmoakgfaaDoor
open Go.RowKit Go.Shelf

theorem itoa_step (m : Nat) (h : 10 ≤ m) : Lib.itoa (m : Int) = Lib.itoa ((m / 10 : Nat) : Int) ++ [UInt8.ofNat (48 + m % 10)] := by
  have := Cp.itoa_more (m / 10) (m % 10) (by omega) (by omega)
  rw [← this]
  congr 1
  omega

set_option maxHeartbeats 1000000 in
set_option maxRecDepth 100000 in
theorem decimal_any (n : Nat) (hn : n ≤ 9999) (w : World) :
    Calls Tryd.prog 35 #[.int .i64 (n : Int)] w fun e w' => ∃ t : ByteArray, e = .returned (.string t) ∧ t.data.toList = Lib.itoa (n : Int) ∧ Below w.heap.size w w' := by
  have hlen := Lib.itoa_length_le (n : Int) (by omega) (by omega)
  have HLEN := Lib.hid hlen
  clear hlen
  go_enter Tryd.func35, Tryd.ntmps35
  go_wp2
  go_loopg [0, 3] (n + 1) (fun gk nv sv wr => ∃ (m : Nat) (t : ByteArray), m + 1 ≤ gk ∧ m ≤ 9999 ∧ nv = .int .i64 (m : Int) ∧ sv = .string t ∧ Aside (Lib.itoa (m : Int) ++ t.data.toList = Lib.itoa (n : Int) ∧ Below w.heap.size w wr))
  case atStart => exact ⟨n, ⟨#[]⟩, Nat.le_refl _, hn, rfl, rfl, by simp, Below.refl _ _⟩
  case round =>
    obtain ⟨m, t, hg, hm, rfl, rfl, hA⟩ := hrel
    have hts : t.size ≤ 30 := by
      have e := congrArg List.length hA.out.1
      rw [List.length_append] at e
      rw [Lib.size_eq]
      have := HLEN.out
      omega
    by_cases h10 : 10 ≤ m
    · obtain ⟨d, hd⟩ : ∃ d, m % 10 = d := ⟨_, rfl⟩
      obtain ⟨m', hm'⟩ : ∃ m', m / 10 = m' := ⟨_, rfl⟩
      have hst := itoa_step m h10
      rw [hd, hm'] at hst
      have hd10 : d < 10 := by omega
      have hz : (10 : Int) ≤ (m : Int) := by omega
      have hr : (m : Int).tmod 10 = (d : Int) := by rw [← hd]; exact (Int.ofNat_tmod m 10).symm
      have hq : (m : Int).tdiv 10 = (m' : Int) := by rw [← hm']; exact (Int.ofNat_tdiv m 10).symm
      obtain ⟨c, hc⟩ : ∃ c : UInt8, UInt8.ofNat (48 + d) = c := ⟨_, rfl⟩
      have hcz : 48 + (d : Int) = (c.toNat : Int) := by rw [← hc, Cp.ofNat_digit d hd10]; omega
      have hcv := u8_string wr (48 + (d : Int)) c hcz
      have hdz : (d : Int) < 10 := by omega
      have hdz0 : (0 : Int) ≤ (d : Int) := by omega
      have hmz : (m' : Int) ≤ 9999 := by omega
      have hmz0 : (0 : Int) ≤ (m' : Int) := by omega
      have hcat : ¬ 9223372036854775807 < (⟨#[c]⟩ : ByteArray).size + t.size := by
        have e : (⟨#[c]⟩ : ByteArray).size = 1 := rfl
        omega
      have hm10 : m' < m := by omega
      rw [hc] at hst
      have HST := Lib.hid hst
      clear hst hd hm' hc hcz
      go_wp2
      go_roundg m
      case measure => omega
      case rel =>
        refine ⟨m', _, by omega, by omega, by go_num, rfl, ?_, hA.out.2.alloc hA.out.2.size _⟩
        rw [← hA.out.1, HST.out, app_bytes]
        simp
    · have hz : ¬ (10 : Int) ≤ (m : Int) := by omega
      have hst := Cp.itoa_digit m (by omega)
      obtain ⟨c, hc⟩ : ∃ c : UInt8, UInt8.ofNat (48 + m) = c := ⟨_, rfl⟩
      have hcz : 48 + (m : Int) = (c.toNat : Int) := by rw [← hc, Cp.ofNat_digit m (by omega)]; omega
      have hcv := u8_string wr (48 + (m : Int)) c hcz
      have hmz : (m : Int) < 10 := by omega
      have hmz0 : (0 : Int) ≤ (m : Int) := by omega
      have hcat : ¬ 9223372036854775807 < (⟨#[c]⟩ : ByteArray).size + t.size := by
        have e : (⟨#[c]⟩ : ByteArray).size = 1 := rfl
        omega
      rw [hc] at hst
      have HST := Lib.hid hst
      clear hst hc hcz
      go_wp2
      go_ret
      refine ⟨_, rfl, ?_, hA.out.2.alloc hA.out.2.size _⟩
      rw [← hA.out.1, HST.out, app_bytes]

end Go.Proofs.YteenhgnmoakgfaaDoor
