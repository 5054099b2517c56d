/-
  The small functions of csiparam: what isMarker, areIntermediate, strings.Clone and At return.
-/
import Derived.Test.YtihfjkjbeeoanaaDoorNums
import Derived.Test.YtihfjkjbeeoanaaDoorShelfC
namespace Go.Proofs.YtihfjkjbeeoanaaDoor.Ci
open Go.RowKit Go.Shelf

theorem mk_index (b : UInt8) : decide (0 ≤ Lib.indexByte [60, 61, 62, 63] b) = Cp.isMk b := by
  have := Cp.u8_all (p := fun b => decide (0 ≤ Lib.indexByte [60, 61, 62, 63] b) == Cp.isMk b) (by decide +kernel) b
  simpa using this

set_option maxRecDepth 100000 in
theorem isMarker_any (b : UInt8) (w : World) : Calls Tryd.prog 51 #[.int .u8 (b.toNat : Int)] w fun e w' => e = .returned (.bool (Cp.isMk b)) ∧ w = w' := by
  have c := Tryd.strings_IndexByte ⟨#[60, 61, 62, 63]⟩ (b.toNat : Int) w
  have hb : ((b.toNat : Int).toNat.toUInt8) = b := by simp
  rw [hb] at c
  have HM := Lib.hid (mk_index b)
  have e : (⟨#[60, 61, 62, 63]⟩ : ByteArray).data.toList = [60, 61, 62, 63] := rfl
  rw [e] at c
  generalize Lib.indexByte [60, 61, 62, 63] b = z at c HM
  have C := Lib.hid c
  clear c hb e
  go_enter Tryd.func51, Tryd.ntmps51
  go_wp2_with fail
  refine C.out.mono ?_
  rintro e w' ⟨rfl, hw⟩
  obtain rfl := hw
  go_wp2
  go_ret
  exact ⟨ret_bool HM.out, rfl⟩

theorem take_all {p : UInt8 → Bool} (l : List UInt8) (k : Nat) (hk : k < l.length) (h : (l.take k).all p = true) (hb : p l[k] = true) : (l.take (k + 1)).all p = true := by
  rw [List.take_succ_eq_append_getElem hk, List.all_append, h, List.all_cons, hb]; rfl
theorem not_all {p : UInt8 → Bool} (l : List UInt8) (k : Nat) (hk : k < l.length) (hb : p l[k] = false) : l.all p = false := by
  rw [List.all_eq_false]
  exact ⟨l[k], List.getElem_mem hk, by rw [hb]; simp⟩
theorem at_list (s : ByteArray) (k : Nat) (h : k < s.size) : s[k] = s.data.toList[k]'(by rw [← Lib.size_eq]; exact h) := rfl

set_option maxHeartbeats 400000 in
set_option maxRecDepth 100000 in
theorem areMid_any (s : ByteArray) (w : World) (hs : s.size ≤ 9223372036854775807) :
    Calls Tryd.prog 47 #[.string s] w fun e w' => e = .returned (.bool (s.data.toList.all Cp.isMid)) ∧ w = w' := by
  obtain ⟨R, hR⟩ : ∃ R, s.data.toList.all Cp.isMid = R := ⟨_, rfl⟩
  rw [hR]
  have HR := Lib.hid hR
  clear hR
  go_enter Tryd.func47, Tryd.ntmps47
  go_wp2
  go_loopg [3, 6] (s.size + 1) (fun gk _ i wr => ∃ k : Nat, gk + k = s.size + 1 ∧ k ≤ s.size ∧ i = .int .i64 (k : Int) ∧ wr = w ∧ Aside ((s.data.toList.take k).all Cp.isMid = true))
  case atStart => exact ⟨0, by omega, Nat.zero_le _, rfl, rfl, rfl⟩
  case round =>
    obtain ⟨k, hg, hks, rfl, rfl, hA⟩ := hrel
    have hsl := Lib.size_eq s
    by_cases hlt : k < s.size
    · obtain ⟨g', rfl⟩ : ∃ g', gk = g' + 1 := ⟨gk - 1, by omega⟩
      have hz : (k : Int) < (s.size : Int) := by omega
      have hz0 : (0 : Int) ≤ (k : Int) := by omega
      have hkl : k < s.data.toList.length := by omega
      obtain ⟨b, hb⟩ : ∃ b, s[k] = b := ⟨_, rfl⟩
      have HB : Hid (s.data.toList[k] = b) := Lib.hid hb
      have HL := Lib.hid hsl
      clear hsl
      by_cases h1 : b.toNat < 32
      · have h1z : (b.toNat : Int) < 32 := by omega
        go_wp2
        go_ret
        refine ⟨ret_bool ?_, rfl⟩
        rw [← HR.out, not_all _ k hkl]
        rw [HB.out]
        unfold Cp.isMid
        simp; omega
      · have h1z : ¬ (b.toNat : Int) < 32 := by omega
        by_cases h2 : 47 < b.toNat
        · have h2z : (47 : Int) < (b.toNat : Int) := by omega
          go_wp2
          go_ret
          refine ⟨ret_bool ?_, rfl⟩
          rw [← HR.out, not_all _ k hkl]
          rw [HB.out]
          unfold Cp.isMid
          simp; omega
        · have h2z : ¬ (47 : Int) < (b.toNat : Int) := by omega
          go_wp2
          go_roundg g'
          case measure => omega
          case rel =>
            refine ⟨k + 1, by omega, by omega, by go_num, rfl, ?_⟩
            refine take_all _ k hkl hA.out ?_
            rw [HB.out]
            unfold Cp.isMid
            simp; omega
    · have hz : ¬ (k : Int) < (s.size : Int) := by omega
      have e : s.data.toList.take k = s.data.toList := List.take_of_length_le (by omega)
      rw [e] at hA
      clear e hsl
      go_wp2
      go_ret
      exact ⟨ret_bool (by rw [← HR.out, hA.out]), rfl⟩

/-- strings.Clone: the same bytes; nothing that was there has turned. -/
theorem clone_any (s : ByteArray) (w : World) (hs : s.size ≤ 1000) :
    Calls Tryd.prog 33 #[.string s] w fun e w' => e = .returned (.string s) ∧ Below w.heap.size w w' := by
  go_enter Tryd.func33, Tryd.ntmps33
  go_wp2_with (go_at_call 45; refine (Tryd.stringslite_Clone _ _ (by omega)).mono ?_; rintro e w' ⟨rfl, hb⟩)
  go_ret
  exact ⟨rfl, hb⟩

end Go.Proofs.YtihfjkjbeeoanaaDoor.Ci
