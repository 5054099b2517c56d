/-
  What divide of csiparam returns, for every string of at most 1000 bytes.
-/
import Derived.Test.YtihfjkjbeeoanaaDoorCsSmall
namespace Go.Proofs.YtihfjkjbeeoanaaDoor.Ci
open Go.RowKit Go.Shelf

/-- strings.TrimLeft at the parameter bytes. -/
theorem trimLeft_any (s : ByteArray) (w : World) : Calls Tryd.prog 52 #[.string s, .string { data := #[48, 49, 50, 51, 52, 53, 54, 55, 56, 57, 59] }] w
    fun e w' => e = .returned (.string ⟨(s.data.toList.dropWhile Cp.isPar).toArray⟩) ∧ Below w.heap.size w w' := by
  have c := Tryd.strings_TrimLeft s ⟨#[48, 49, 50, 51, 52, 53, 54, 55, 56, 57, 59]⟩ w (by decide) (ascii_of_all (by decide))
  have e : Lib.trimLeftS s.data.toList (⟨#[48, 49, 50, 51, 52, 53, 54, 55, 56, 57, 59]⟩ : ByteArray).data.toList = s.data.toList.dropWhile Cp.isPar := by
    unfold Lib.trimLeftS
    congr 1
    funext b
    exact (Cp.isPar_cut b).symm
  rw [e] at c
  exact c
/-- The same, its answer behind a name. -/
theorem trimLeft_some (s : ByteArray) : ∃ t : ByteArray, t.data.toList = s.data.toList.dropWhile Cp.isPar ∧ t.size ≤ s.size ∧
    ∀ w, Calls Tryd.prog 52 #[.string s, .string { data := #[48, 49, 50, 51, 52, 53, 54, 55, 56, 57, 59] }] w fun e w' => e = .returned (.string t) ∧ Below w.heap.size w w' := by
  refine ⟨⟨(s.data.toList.dropWhile Cp.isPar).toArray⟩, by simp, ?_, fun w => trimLeft_any s w⟩
  rw [Lib.size_eq, Lib.size_eq s]
  have h := congrArg List.length (List.takeWhile_append_dropWhile (p := Cp.isPar) (l := s.data.toList))
  rw [List.length_append] at h
  have e : (⟨(s.data.toList.dropWhile Cp.isPar).toArray⟩ : ByteArray).data.toList = s.data.toList.dropWhile Cp.isPar := by simp
  rw [e]
  omega
theorem take_par (s t : ByteArray) (ht : t.data.toList = s.data.toList.dropWhile Cp.isPar) : (s.extract 0 (s.size - t.size)).data.toList = s.data.toList.takeWhile Cp.isPar := by
  have h := List.takeWhile_append_dropWhile (p := Cp.isPar) (l := s.data.toList)
  have hl := congrArg List.length h
  rw [List.length_append] at hl
  rw [Lib.extract_data, Lib.size_eq, Lib.size_eq t, ht, List.drop_zero, Nat.sub_zero]
  have e : s.data.toList.length - (s.data.toList.dropWhile Cp.isPar).length = (s.data.toList.takeWhile Cp.isPar).length := by omega
  rw [e]
  have key : ∀ a b : List UInt8, (a ++ b).take a.length = a := fun a b => by simp
  have := key (s.data.toList.takeWhile Cp.isPar) (s.data.toList.dropWhile Cp.isPar)
  rw [h] at this
  exact this

/-- What divide leaves for the bytes l. -/
def Divided (w : World) (l : List UInt8) (e : Ending) (w' : World) : Prop :=
  ∃ p r : ByteArray, e = .returned (.tuple #[.int .u8 ((Cp.mk l).toNat : Int), .string p, .string r]) ∧ p.data.toList = Cp.par l ∧ r.data.toList = Cp.mid l ∧ Below w.heap.size w w'

theorem ret_div {a b : Int} {p r : ByteArray} (h : a = b) : Ending.returned (.tuple #[.int .u8 a, .string p, .string r]) = .returned (.tuple #[.int .u8 b, .string p, .string r]) := by rw [h]

set_option maxHeartbeats 1000000 in
set_option maxRecDepth 100000 in
theorem divide_any (s : ByteArray) (w : World) (hs : s.size ≤ 1000) : Calls Tryd.prog 46 #[.string s] w (Divided w s.data.toList) := by
  have hemp : s.toList.isEmpty = decide (s.size = 0) := by
    rw [Lib.toList_data, Lib.size_eq]
    cases s.data.toList <;> simp
  have hsl := Lib.size_eq s
  by_cases h0 : s.size = 0
  · have hl : s.data.toList = [] := List.eq_nil_of_length_eq_zero (by omega)
    obtain ⟨t, ht, htl, cT⟩ := trimLeft_some s
    have hts : t.size = 0 := by omega
    have HT := Lib.hid ht
    have HL := Lib.hid hl
    rw [decide_eq_true h0] at hemp
    have CT := Lib.hid cT
    clear cT ht hl hsl
    have hz : (s.size : Int) = 0 := by omega
    have htz : (t.size : Int) = 0 := by omega
    go_enter Tryd.func46, Tryd.ntmps46
    go_wp2_with fail
    refine (CT.out w).mono ?_
    rintro e w1 ⟨rfl, b1⟩
    go_wp2
    go_quiet (fail)
    go_wp2
    go_ret3
    refine ⟨_, _, ret_div (by rw [HL.out]; rfl), ?_, ?_, below_drewN b1 _⟩
    · rw [HL.out]; rfl
    · rw [HT.out, HL.out]; rfl
  · have hpos : 0 < s.size := by omega
    have h0z : (0 : Int) < (s.size : Int) := by omega
    rw [decide_eq_false h0] at hemp
    obtain ⟨b, r, hl⟩ : ∃ b r, s.data.toList = b :: r := by
      cases h : s.data.toList with
      | nil => rw [h, List.length_nil] at hsl; omega
      | cons b r => exact ⟨b, r, rfl⟩
    have hb : s[0] = b := by
      rw [at_list s 0 hpos]
      simp [hl]
    have cM := isMarker_any b
    cases hm : Cp.isMk b
    · rw [hm] at cM
      have HM := Lib.hid hm
      obtain ⟨t, ht, htl, cT⟩ := trimLeft_some s
      have htp := take_par s t ht
      have HP := Lib.hid htp
      have HT := Lib.hid ht
      have HL := Lib.hid hl
      have CT := Lib.hid cT
      have CM := Lib.hid cM
      clear cT ht hl hsl cM hm htp
      have htz : (t.size : Int) ≤ (s.size : Int) := by omega
      have htz0 : (0 : Int) ≤ (s.size : Int) - (t.size : Int) := by omega
      have hn : (s.size : Int) - (t.size : Int) = ((s.size - t.size : Nat) : Int) := by omega
      go_enter Tryd.func46, Tryd.ntmps46
      go_wp2_with fail
      refine (CM.out w).mono ?_
      rintro e w0 ⟨rfl, rfl⟩
      go_wp2_with fail
      refine (CT.out w).mono ?_
      rintro e w1 ⟨rfl, b1⟩
      go_wp2
      go_quiet (fail)
      go_wp2
      go_ret3
      refine ⟨_, _, ret_div (by rw [HL.out]; simp [Cp.mk, HM.out]), ?_, ?_, below_drewN b1 _⟩
      · rw [HP.out, HL.out]; simp [Cp.par, Cp.tl, HM.out]
      · rw [HT.out, HL.out]; simp [Cp.mid, Cp.tl, HM.out]
    · rw [hm] at cM
      have HM := Lib.hid hm
      obtain ⟨x, hx⟩ : ∃ x, s.extract 1 s.size = x := ⟨_, rfl⟩
      have hxr : x.data.toList = r := by
        rw [← hx, Lib.extract_data, hl, List.drop_succ_cons, List.drop_zero, List.take_of_length_le]
        rw [hsl, hl, List.length_cons]; omega
      have hxs : x.size ≤ s.size := by
        rw [Lib.size_eq, hxr, hsl, hl, List.length_cons]; omega
      obtain ⟨t, ht, htl, cT⟩ := trimLeft_some x
      have htp := take_par x t ht
      have HP := Lib.hid htp
      have HT := Lib.hid ht
      have HL := Lib.hid hl
      have HX := Lib.hid hxr
      have CT := Lib.hid cT
      have CM := Lib.hid cM
      clear cT ht hl hsl cM hm htp hxr
      have htz : (t.size : Int) ≤ (x.size : Int) := by omega
      have htz0 : (0 : Int) ≤ (x.size : Int) - (t.size : Int) := by omega
      have hn : (x.size : Int) - (t.size : Int) = ((x.size - t.size : Nat) : Int) := by omega
      have h1z : (1 : Int) ≤ (s.size : Int) := by omega
      go_enter Tryd.func46, Tryd.ntmps46
      go_wp2_with fail
      refine (CM.out w).mono ?_
      rintro e w0 ⟨rfl, rfl⟩
      go_wp2
      go_quiet (fail)
      go_wp2_with fail
      refine (CT.out _).mono ?_
      rintro e w1 ⟨rfl, b1⟩
      have b2 : Below w.heap.size w w1 := (below_drewN (Below.refl _ w) _).trans b1
      clear b1
      go_wp2
      go_quiet (fail)
      go_wp2
      go_ret3
      refine ⟨_, _, ret_div (by rw [HL.out]; simp [Cp.mk, HM.out]), ?_, ?_, below_drewN b2 _⟩
      · rw [HP.out, HL.out, HX.out]; simp [Cp.par, Cp.tl, HM.out]
      · rw [HT.out, HL.out, HX.out]; simp [Cp.mid, Cp.tl, HM.out]

end Go.Proofs.YtihfjkjbeeoanaaDoor.Ci
