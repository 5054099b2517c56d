/-
  What Format of csiparam returns, whatever the lengths.
-/
import Derived.Test.YtckknodckiljkaaDoorFormat
namespace Go.Proofs.YtckknodckiljkaaDoor.Ci
open Go.RowKit Go.Shelf

set_option maxHeartbeats 1000000 in
set_option maxRecDepth 100000 in
theorem format_bad (p : UInt8) (A : Option Addr) (n c B : Nat) (ps : List Int) (i : ByteArray) (w : World) (hX : Nums w B A n ps) (hn : n ≤ 9223372036854775807) (hi : i.size ≤ 9223372036854775807)
    {l : List UInt8} {er : Int} (h : Cp.fmt p ps i.data.toList = (l, er)) (hne : er ≠ 0) :
    Calls Tryd.prog 32 #[.int .u8 (p.toNat : Int), .slice A n c, .string i] w (Formed w l er) := by
  have cM := isMarker_any p w
  have cI := areMid_any i w (by omega)
  have cH := haveBody_any A n c B ps w hX (by omega)
  have cE := exceeds_any A n c B ps i w hX (by omega) (by omega)
  unfold Cp.fmt at h
  have hp0 : ((p.toNat : Int) != 0) = decide (p ≠ 0) := by
    by_cases e : p = 0
    · subst e; rfl
    · have : p.toNat ≠ 0 := fun e2 => e (UInt8.toNat_inj.1 (by rw [e2]; rfl))
      simp [e]; omega
  obtain ⟨bd, hbd⟩ : ∃ bd, Cp.bad p ps i.data.toList = bd := ⟨_, rfl⟩
  rw [hbd] at h
  unfold Cp.bad at hbd
  obtain ⟨q0, hq0⟩ : ∃ q0, decide (p ≠ 0) = q0 := ⟨_, rfl⟩
  rw [hq0] at hp0 hbd
  have HQ0 := Lib.hid hq0
  clear hq0
  generalize Cp.isMk p = qm at cM hbd
  generalize i.data.toList.all Cp.isMid = qi at cI hbd
  generalize Cp.has ps = qh at cH hbd
  generalize hov : Cp.over ps i.data.toList = qo at cE h
  have CM := Lib.hid cM
  have CI := Lib.hid cI
  have CH := Lib.hid cH
  have CE := Lib.hid cE
  have H := Lib.hid h
  have HB := Lib.hid hbd
  have HNE := Lib.hid hne
  clear cM cI cH cE h hX hov hbd hne
  go_enter Tryd.func32, Tryd.ntmps32
  go_upto_region 1 with fail
  go_cut [27] (fun t wx => t = .bool bd ∧ w = wx)
  case first =>
    have hbd := HB.out
    cases q0
    · simp only [Bool.false_and, Bool.false_or] at hbd
      cases qi
      · simp only [Bool.not_false, Bool.true_or] at hbd
        subst hbd
        go_wp2_with fail
        refine CI.out.mono ?_
        rintro e w' ⟨rfl, rfl⟩
        go_wp2
        go_meet
        exact ⟨rfl, rfl⟩
      · simp only [Bool.not_true, Bool.false_or] at hbd
        subst hbd
        go_wp2_with fail
        refine CI.out.mono ?_
        rintro e w' ⟨rfl, rfl⟩
        go_wp2_with fail
        refine CH.out.mono ?_
        rintro e w' ⟨rfl, rfl⟩
        go_wp2
        go_meet
        exact ⟨rfl, rfl⟩
    · simp only [Bool.true_and] at hbd
      cases qm
      · simp only [Bool.not_false, Bool.true_or] at hbd
        subst hbd
        go_wp2_with fail
        refine CM.out.mono ?_
        rintro e w' ⟨rfl, rfl⟩
        go_wp2
        go_meet
        exact ⟨rfl, rfl⟩
      · simp only [Bool.not_true, Bool.false_or] at hbd
        cases qi
        · simp only [Bool.not_false, Bool.true_or] at hbd
          subst hbd
          go_wp2_with fail
          refine CM.out.mono ?_
          rintro e w' ⟨rfl, rfl⟩
          go_wp2_with fail
          refine CI.out.mono ?_
          rintro e w' ⟨rfl, rfl⟩
          go_wp2
          go_meet
          exact ⟨rfl, rfl⟩
        · simp only [Bool.not_true, Bool.false_or] at hbd
          subst hbd
          go_wp2_with fail
          refine CM.out.mono ?_
          rintro e w' ⟨rfl, rfl⟩
          go_wp2_with fail
          refine CI.out.mono ?_
          rintro e w' ⟨rfl, rfl⟩
          go_wp2_with fail
          refine CH.out.mono ?_
          rintro e w' ⟨rfl, rfl⟩
          go_wp2
          go_meet
          exact ⟨rfl, rfl⟩
  case rest =>
    obtain ⟨rfl, rfl⟩ := hcut
    clear HB
    cases bd
    · have h := H.out
      simp only [Bool.false_eq_true, if_false] at h
      clear H
      go_wp2_with fail
      refine CE.out.mono ?_
      rintro e w' ⟨rfl, rfl⟩
      cases qo
      · simp only [Bool.false_eq_true, if_false] at h
        injection h with e1 e2
        exact absurd e2.symm HNE.out
      · simp only [if_true] at h
        injection h with e1 e2
        subst e1 e2
        go_wp2
        go_ret2
        exact ⟨_, rfl, rfl, Below.refl _ _⟩
    · have h := H.out
      simp only [if_true] at h
      injection h with e1 e2
      subst e1 e2
      go_wp2
      go_ret2
      exact ⟨_, rfl, rfl, Below.refl _ _⟩

/-- Format, whatever the lengths. -/
theorem format_wide (p : UInt8) (A : Option Addr) (n c B : Nat) (ps : List Int) (i : ByteArray) (w : World) (hB : B ≤ w.heap.size) (hX : Nums w B A n ps) (hn : n ≤ 9223372036854775807) (hi : i.size ≤ 9223372036854775807) (hP : Pw w) (hr : ∀ z ∈ ps, -9223372036854775808 ≤ z ∧ z ≤ 9223372036854775807)
    {l : List UInt8} {er : Int} (h : Cp.fmt p ps i.data.toList = (l, er)) :
    Calls Tryd.prog 32 #[.int .u8 (p.toNat : Int), .slice A n c, .string i] w (Formed w l er) := by
  by_cases he : er = 0
  · have h2 : (Cp.fmt p ps i.data.toList).2 = 0 := by rw [h]; exact he
    have h3 := Cp.over_le (Cp.fmt_ok h2).2.1
    have h4 := hX.1
    exact format_any p A n c B ps i w hB hX (by omega) (by rw [Lib.size_eq]; omega) hP hr h
  · exact format_bad p A n c B ps i w hX hn hi h he

end Go.Proofs.YtckknodckiljkaaDoor.Ci
