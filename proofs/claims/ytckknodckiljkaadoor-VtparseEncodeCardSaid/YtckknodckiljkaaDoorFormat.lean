/-
  What Format of csiparam returns.
-/
import Derived.Test.YtckknodckiljkaaDoorLimits
import Derived.Test.YtckknodckiljkaaDoorBytes
import Derived.Deep.DeepFit
import Derived.Deep.DeepMust
import Derived.Deep.DeepCutAuto
namespace Go.Proofs.YtckknodckiljkaaDoor.Ci
open Go.RowKit Go.Shelf

/-- What Format leaves. -/
def Formed (w : World) (l : List UInt8) (er : Int) (e : Ending) (w' : World) : Prop :=
  ∃ t : ByteArray, e = .returned (.tuple #[.string t, .int .i64 er]) ∧ t.data.toList = l ∧ Below w.heap.size w w'

theorem num_len (n : Int) (h0 : -9223372036854775808 ≤ n) (h1 : n ≤ 9223372036854775807) : (Cp.num n).length ≤ 21 := by
  unfold Cp.num
  split
  · simp
  · exact Lib.itoa_length_le n h0 h1
theorem take_bd (ps : List Int) (k : Nat) (hk : k < ps.length) : Cp.bd false (ps.take (k + 1)) = Cp.bd false (ps.take k) ++ (if 0 < k then [59] else []) ++ Cp.num (ps.getD k 0) := by
  have e : ps[k] = ps.getD k 0 := by simp [List.getD_eq_getElem?_getD, hk]
  rw [List.take_succ_eq_append_getElem hk, Cp.bd_snoc, e]
  have e2 : (false || decide (ps.take k ≠ [])) = decide (0 < k) := by
    cases k with
    | zero => simp
    | succ k =>
      cases ps with
      | nil => simp at hk
      | cons a r => simp
  rw [e2]
  simp

set_option maxHeartbeats 1000000 in
set_option maxRecDepth 100000 in
theorem format_any (p : UInt8) (A : Option Addr) (n c B : Nat) (ps : List Int) (i : ByteArray) (w : World) (hB : B ≤ w.heap.size) (hX : Nums w B A n ps) (hn : n ≤ 1000) (hi : i.size ≤ 1000) (hP : Pw w) (hr : ∀ z ∈ ps, -9223372036854775808 ≤ z ∧ z ≤ 9223372036854775807)
    {l : List UInt8} {er : Int} (h : Cp.fmt p ps i.data.toList = (l, er)) :
    Calls Tryd.prog 32 #[.int .u8 (p.toNat : Int), .slice A n c, .string i] w (Formed w l er) := by
  have cM := isMarker_any p w
  have cI := areMid_any i w (by omega)
  have cH := haveBody_any A n c B ps w hX (by omega)
  have cE := exceeds_any A n c B ps i w hX (by omega) (by omega)
  have hHD : (Cp.hd p).length ≤ 1 := by unfold Cp.hd; split <;> simp
  have hlen : ∀ k, (Cp.bd false (ps.take k)).length ≤ 22000 := fun k => by
    have h1 := Cp.bd_len false (ps.take k) (fun z hz => by have := hr z (List.mem_of_mem_take hz); exact num_len z this.1 this.2)
    have h2 := hX.1
    have h3 : (ps.take k).length ≤ ps.length := by rw [List.length_take]; omega
    omega
  unfold Cp.fmt at h
  have hp0 : ((p.toNat : Int) != 0) = decide (p ≠ 0) := by
    by_cases e : p = 0
    · subst e; rfl
    · have : p.toNat ≠ 0 := fun e2 => e (UInt8.toNat_inj.1 (by rw [e2]; rfl))
      simp [e]; omega
  obtain ⟨bd, hbd⟩ : ∃ bd, Cp.bad p ps i.data.toList = bd := ⟨_, rfl⟩
  rw [hbd] at h
  unfold Cp.bad at hbd
  obtain ⟨q0, hq0⟩ : ∃ q0, decide (p ≠ 0) = q0 := ⟨_, rfl⟩
  rw [hq0] at hp0 hbd
  have HQ0 := Lib.hid hq0
  clear hq0
  generalize Cp.isMk p = qm at cM hbd
  generalize i.data.toList.all Cp.isMid = qi at cI hbd
  generalize Cp.has ps = qh at cH hbd
  generalize hov : Cp.over ps i.data.toList = qo at cE h
  have CM := Lib.hid cM
  have CI := Lib.hid cI
  have CH := Lib.hid cH
  have CE := Lib.hid cE
  have H := Lib.hid h
  have HB := Lib.hid hbd
  have HX := Lib.hid hX
  have HR := Lib.hid hr
  have HL := Lib.hid hlen
  clear cM cI cH cE h hX hov hr hlen hbd
  go_enter Tryd.func32, Tryd.ntmps32
  go_upto_region 1 with fail
  go_cut [27] (fun t wx => t = .bool bd ∧ w = wx)
  case first =>
    have hbd := HB.out
    cases q0
    · simp only [Bool.false_and, Bool.false_or] at hbd
      cases qi
      · simp only [Bool.not_false, Bool.true_or] at hbd
        subst hbd
        go_wp2_with fail
        refine CI.out.mono ?_
        rintro e w' ⟨rfl, rfl⟩
        go_wp2
        go_meet
        exact ⟨rfl, rfl⟩
      · simp only [Bool.not_true, Bool.false_or] at hbd
        subst hbd
        go_wp2_with fail
        refine CI.out.mono ?_
        rintro e w' ⟨rfl, rfl⟩
        go_wp2_with fail
        refine CH.out.mono ?_
        rintro e w' ⟨rfl, rfl⟩
        go_wp2
        go_meet
        exact ⟨rfl, rfl⟩
    · simp only [Bool.true_and] at hbd
      cases qm
      · simp only [Bool.not_false, Bool.true_or] at hbd
        subst hbd
        go_wp2_with fail
        refine CM.out.mono ?_
        rintro e w' ⟨rfl, rfl⟩
        go_wp2
        go_meet
        exact ⟨rfl, rfl⟩
      · simp only [Bool.not_true, Bool.false_or] at hbd
        cases qi
        · simp only [Bool.not_false, Bool.true_or] at hbd
          subst hbd
          go_wp2_with fail
          refine CM.out.mono ?_
          rintro e w' ⟨rfl, rfl⟩
          go_wp2_with fail
          refine CI.out.mono ?_
          rintro e w' ⟨rfl, rfl⟩
          go_wp2
          go_meet
          exact ⟨rfl, rfl⟩
        · simp only [Bool.not_true, Bool.false_or] at hbd
          subst hbd
          go_wp2_with fail
          refine CM.out.mono ?_
          rintro e w' ⟨rfl, rfl⟩
          go_wp2_with fail
          refine CI.out.mono ?_
          rintro e w' ⟨rfl, rfl⟩
          go_wp2_with fail
          refine CH.out.mono ?_
          rintro e w' ⟨rfl, rfl⟩
          go_wp2
          go_meet
          exact ⟨rfl, rfl⟩
  case rest =>
    obtain ⟨rfl, rfl⟩ := hcut
    clear HB
    cases bd
    · have h := H.out
      simp only [Bool.false_eq_true, if_false] at h
      clear H
      go_wp2_with fail
      refine CE.out.mono ?_
      rintro e w' ⟨rfl, rfl⟩
      cases qo
      · simp only [Bool.false_eq_true, if_false] at h
        injection h with e1 e2
        subst e2
        have HE := Lib.hid e1
        clear e1
        go_upto_if 32 with fail
        go_cut [8] (fun v wx => ∃ A' n' c', v = .slice A' n' c' ∧ Aside (OutB w wx (.slice A' n' c') (Cp.hd p)))
        case first =>
          have hq0 := HQ0.out
          cases q0
          · have e : Cp.hd p = [] := by
              unfold Cp.hd
              rw [if_pos]
              simpa using hq0
            have HH := Lib.hid e
            clear hq0 e
            go_wp2
            go_meet
            exact ⟨none, 0, 0, rfl, by rw [HH.out]; exact OutB.start w⟩
          · have e : Cp.hd p = [] ++ [p] := by
              unfold Cp.hd
              rw [if_neg]
              · rfl
              · simpa using hq0
            have HH := Lib.hid e
            clear hq0 e
            go_wp2_with (at_builtin; refine wpList_pushB rfl (.tmp 33) (.tmp 35) rfl w _ _ [] _ p rfl rfl rfl (OutB.start w) (by simp) ?_; intro A' n' c' w1 hout)
            go_meet
            exact ⟨_, _, _, rfl, by rw [HH.out]; exact hout⟩
        case rest =>
          obtain ⟨A8, n8, c8, rfl, hO⟩ := hcut
          go_wp2
          go_loopg [8, 9, 10, 39] (n + 1) (fun gk v _ _ i wr => ∃ k : Nat, gk + k = n + 1 ∧ k ≤ n ∧ i = .int .i64 (k : Int) ∧ ∃ A' n' c', v = .slice A' n' c' ∧ Aside (OutB w wr (.slice A' n' c') (Cp.hd p ++ Cp.bd false (ps.take k))))
          case atStart =>
            refine ⟨0, by omega, Nat.zero_le _, rfl, _, _, _, rfl, ?_⟩
            rw [List.take_zero]
            show Aside (OutB w _ _ (Cp.hd p ++ []))
            rw [List.append_nil]
            exact hO
          case round =>
            obtain ⟨k, hg, hkn, rfl, A9, n9, c9, rfl, hO2⟩ := hrel
            have hX := HX.out
            have hlx := Lib.hid hX.1
            have hll : (Cp.hd p ++ Cp.bd false (ps.take k)).length ≤ 30000 := by rw [List.length_append]; have := HL.out k; omega
            by_cases hlt : k < n
            · obtain ⟨g', rfl⟩ : ∃ g', gk = g' + 1 := ⟨gk - 1, by omega⟩
              have hz : (k : Int) < (n : Int) := by omega
              have hz0 : (0 : Int) ≤ (k : Int) := by omega
              obtain ⟨b, off, rfl, hb, hc⟩ := hX.2 k hlt
              have hc1 := (hO2.out.2.cell (p := ⟨b, off + k, none⟩) (Nat.lt_of_lt_of_le hb hB)).trans hc
              have hkx : k < ps.length := by rw [hlx.out]; exact hlt
              have HT := Lib.hid (take_bd ps k hkx)
              have hrz := HR.out (ps.getD k 0) (by
                have e : ps[k] = ps.getD k 0 := by simp [List.getD_eq_getElem?_getD, hkx]
                rw [← e]
                exact List.getElem_mem hkx)
              generalize ps.getD k 0 = z at hc1 HT hrz
              generalize Cp.bd false (ps.take k) = L at hO2 HT hll
              clear hX hc hkx
              obtain ⟨hr0, hr1⟩ := hrz
              go_upto_if 45 with fail
              go_cut [8] (fun v wx => ∃ A' n' c', v = .slice A' n' c' ∧ Aside (OutB w wx (.slice A' n' c') (Cp.hd p ++ L ++ (if 0 < k then [59] else []))))
              case first =>
                by_cases hk0 : 0 < k
                · have hkz : (0 : Int) < (k : Int) := by omega
                  go_wp2_with (at_builtin; refine wpList_pushB rfl (.tmp 46) (.tmp 47) rfl w _ _ _ _ 59 rfl rfl rfl hO2.out (by omega) ?_; intro A' n' c' w1 hout)
                  go_meet
                  exact ⟨_, _, _, rfl, by rw [if_pos hk0]; exact hout⟩
                · have hkz : ¬ (0 : Int) < (k : Int) := by omega
                  go_wp2
                  go_meet
                  exact ⟨_, _, _, rfl, by rw [if_neg hk0, List.append_nil]; exact hO2⟩
              case rest =>
                obtain ⟨A10, n10, c10, rfl, hO3⟩ := hcut
                clear hO2 hc1
                have hl3 : (Cp.hd p ++ L ++ (if 0 < k then [59] else [])).length ≤ 30001 := by
                  rw [List.length_append]
                  have : (if 0 < k then ([59] : List UInt8) else []).length ≤ 1 := by split <;> simp
                  omega
                have HT' : Hid (Cp.hd p ++ Cp.bd false (ps.take (k + 1)) = Cp.hd p ++ L ++ (if 0 < k then [59] else []) ++ Cp.num z) := Lib.hid (by rw [HT.out]; simp)
                generalize Cp.hd p ++ L ++ (if 0 < k then [59] else []) = L3 at hO3 HT' hl3
                clear HT hll
                by_cases hm1 : z = -1
                · subst hm1
                  have HT2 : Hid (Cp.hd p ++ Cp.bd false (ps.take (k + 1)) = L3) := Lib.hid (by rw [HT'.out]; simp [Cp.num])
                  clear HT'
                  go_wp2
                  go_roundg g'
                  case measure => omega
                  case rel => exact ⟨k + 1, by omega, by omega, by go_num, _, _, _, rfl, by rw [HT2.out]; exact hO3⟩
                · have HT2 : Hid (Cp.hd p ++ Cp.bd false (ps.take (k + 1)) = L3 ++ Lib.itoa z) := Lib.hid (by rw [HT'.out]; simp [Cp.num, hm1])
                  clear HT'
                  have hmz : (z != -1) = true := by simpa using hm1
                  go_wp2_with fail
                  refine (appendInt_any w _ _ L3 z hr0 hr1 hP hO3.out (by omega)).mono ?_
                  rintro e w2 ⟨A11, n11, c11, rfl, hout4⟩
                  have hO4 : Aside (OutB w w2 (.slice A11 n11 c11) (L3 ++ Lib.itoa z)) := hout4
                  clear hout4
                  go_wp2
                  go_roundg g'
                  case measure => omega
                  case rel => exact ⟨k + 1, by omega, by omega, by go_num, _, _, _, rfl, by rw [HT2.out]; exact hO4⟩
            · have hz : ¬ (k : Int) < (n : Int) := by omega
              have htk : ps.take k = ps := List.take_of_length_le (by rw [hlx.out]; omega)
              rw [htk] at hO2
              rw [htk] at hll
              have HE2 : Hid (Cp.hd p ++ Cp.bd false ps ++ i.data.toList = l) := Lib.hid HE.out
              generalize Cp.hd p ++ Cp.bd false ps = L at hO2 HE2 hll
              have hcv := hO2.out.string
              obtain ⟨t, ht⟩ : ∃ t : ByteArray, (⟨L.toArray⟩ : ByteArray) = t := ⟨_, rfl⟩
              have hts : t.data.toList = L := by rw [← ht]
              have htz : t.size ≤ 30000 := by rw [Lib.size_eq, hts]; exact hll
              rw [ht] at hcv
              have HTS := Lib.hid hts
              clear ht hts hX htk hll
              have hsum : ¬ 9223372036854775807 < t.size + i.size := by omega
              go_wp2
              go_ret2
              refine ⟨_, rfl, ?_, hO2.out.2⟩
              rw [← HE2.out, ← HTS.out]
              simp [ByteArray.data_append]
      · simp only [if_true] at h
        injection h with e1 e2
        subst e1 e2
        go_wp2
        go_ret2
        exact ⟨_, rfl, rfl, Below.refl _ _⟩
    · have h := H.out
      simp only [if_true] at h
      injection h with e1 e2
      subst e1 e2
      go_wp2
      go_ret2
      exact ⟨_, rfl, rfl, Below.refl _ _⟩

end Go.Proofs.YtckknodckiljkaaDoor.Ci
