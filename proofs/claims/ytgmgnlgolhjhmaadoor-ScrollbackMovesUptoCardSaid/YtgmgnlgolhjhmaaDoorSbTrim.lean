/-
  What Trim, Push and Line return; copies of a row that may be empty.
-/
import Derived.Test.YtgmgnlgolhjhmaaDoorSbKit
import Derived.Test.YtgmgnlgolhjhmaaDoorGrThree
import Derived.Test.YtgmgnlgolhjhmaaDoorGrSame
namespace Go.Proofs.YtgmgnlgolhjhmaaDoor
open Go.RowKit Go.Shelf Cr Gd

theorem run_joinE (ty : TypeId) (w0 w : World) (g0 n0 c0 : Nat) (l : List C) (ad : Addr) (c : Nat) (hv : Own w0 w (.slice (some ⟨g0, 0, none⟩) n0 c0) l) (hl : l.length ≤ 100000) :
    ∃ (g c' : Nat) (w' : World), (Builtin.append_ #[25, 25] ty #[.slice (some ⟨g0, 0, none⟩) n0 c0, .slice (some ad) 0 c]).run Tryd.prog w = .ok (.slice (some ⟨g, 0, none⟩) l.length c') w' ∧ Own w0 w' (.slice (some ⟨g, 0, none⟩) l.length c') l := by
  obtain ⟨i0, hi, hz0, hz1, hz2⟩ := info_parts Tryd.infoCell
  obtain ⟨hown, hb⟩ := hv
  have hsz := hb.size
  obtain ⟨v', w', hrun, hown', hgrow, hn⟩ := run_append_own (P := Tryd.prog) w w0.heap.size 25 ty 46 i0 _ 5 48 Tryd.underlying25 hi hz0 hz1 hz2 rfl (by decide) _ l.length (flat l) hown ad 0 c [] (by simp) (fun j u hj => by simp at hj) (fun u hu => by cases hu) (by unfold maxLen; omega) (by omega) hsz
  rw [Nat.add_zero, List.append_nil] at hown'
  have hO : Own w0 w' v' l := ⟨hown', hb.grown hgrow hsz (fun k hk => (hown.lt k hk).1)⟩
  rcases hO.slice with ⟨e, _⟩ | ⟨g, cap, e, _⟩
  · have := (hn.1 e).1
    cases this
  · subst e
    exact ⟨g, cap, w', hrun, hO⟩

set_option maxHeartbeats 1000000 in
set_option maxRecDepth 100000 in
/-- slices.Clone of any row. -/
theorem cloneN_any (A : Option Addr) (n c : Nat) (l : List C) (hn : n ≤ 1000) (hnil : A = none → n = 0 ∧ c = 0) (w : World) (hr : Rd w A n l) :
    Calls Tryd.prog 32 #[.slice A n c] w fun e w' => ∃ A' c', e = .returned (.slice A' n c') ∧ GivesC w w' A' n c' l ∧ Fr w A' := by
  have q22 : ∀ (w : World) (a : Option Addr) (n c n' c' : Nat), (binOp .eql 25 (.slice a n c) (.slice none n' c')).run Tryd.prog w = .ok (.bool a.isNone) w := fun w a n c n' c' => Lib.run_eql_slice_nil w _ _ a n c n' c' Tryd.underlying25
  have hl : l.length = n := hr.1
  cases A with
  | none =>
    obtain ⟨rfl, rfl⟩ := hnil rfl
    obtain rfl : l = [] := List.eq_nil_of_length_eq_zero hl
    go_enter Tryd.func32, Tryd.ntmps32
    go_wp2
    go_ret
    exact ⟨none, 0, rfl, gives_nil (Below.refl _ _), Fr.none _⟩
  | some ad =>
    rcases Nat.eq_zero_or_pos n with h0 | h0
    · subst h0
      obtain rfl : l = [] := List.eq_nil_of_length_eq_zero hl
      obtain ⟨g, c', w', hrun, hO⟩ := run_joinE 25 w _ _ _ _ [] ad c (Own.empty w) (by simp)
      have HO := Lib.hid hO
      clear hO hr hl
      go_enter Tryd.func32, Tryd.ntmps32
      go_wp2_with (at_builtin; refine Lib.wpList_append_run _ rfl _ _ _ _ rfl _ _ rfl rfl _ _ hrun ?_)
      go_ret
      exact ⟨_, _, rfl, HO.out.mine.gives, HO.out.mine.fr⟩
    · obtain ⟨b, off, e⟩ := hr.addr h0
      injection e with e
      subst e
      refine (cloneR_any b off n c l hn w hr).mono ?_
      rintro e w' ⟨g, cap, rfl, hO⟩
      exact ⟨_, _, rfl, hO.mine.gives, hO.mine.fr⟩

theorem trim_nat {R : Type} (b : List R) (most : Int) (m : Nat) (h : min most.toNat b.length = m) : Sb.trim b most = b.drop (b.length - m) := by
  unfold Sb.trim
  split
  · congr 1; omega
  · rw [show m = 0 by omega, Nat.sub_zero, List.drop_length]

set_option maxHeartbeats 4000000 in
set_option maxRecDepth 100000 in
theorem trim_any (A : Option Addr) (n c : Nat) (L : List (List C)) (most : Int) (hn : n ≤ 1000) (hnc : n ≤ c) (hnil : A = none → c = 0) (w : World) (hr : RdR w A n L) (hz : Sz L) :
    Calls Tryd.prog 19 #[.slice A n c, .int .i64 most] w fun e w' => ∃ A' c', e = .returned (.slice A' (Sb.trim L most).length c') ∧ GR w w' (.slice A' (Sb.trim L most).length c') (Sb.trim L most) := by
  have hl : L.length = n := hr.1
  obtain ⟨m, hm⟩ : ∃ m, min most.toNat n = m := ⟨_, rfl⟩
  have hmn : m ≤ n := by omega
  obtain ⟨i, hi⟩ : ∃ i, n - m = i := ⟨_, rfl⟩
  have htr : Sb.trim L most = L.drop i := by rw [trim_nat L most m (by omega)]; congr 1; omega
  have htl : (L.drop i).length = m := by rw [List.length_drop]; omega
  rw [htr, htl]
  obtain ⟨T, hT⟩ : ∃ T, L.drop i = T := ⟨_, rfl⟩
  have hTx : ∀ (k : Nat) (x : List C), T[k]? = some x → L[i + k]? = some x := fun k x hk => by rwa [← hT, List.getElem?_drop] at hk
  have hTz : Sz T := by rw [← hT]; exact fun x hx => hz x (List.mem_of_mem_drop hx)
  rw [hT] at htl ⊢
  obtain ⟨w1, hmk, hG⟩ := GR.made w m (by omega)
  have HG := Lib.hid hG
  have HL := Lib.hid htl
  have HTX := Lib.hid hTx
  have HTZ := Lib.hid hTz
  have HR := Lib.hid hr
  have z1 : (m : Int) ≤ 1000 := by omega
  have z2 : (0 : Int) ≤ (m : Int) := by omega
  have z3 : (n : Int) - (m : Int) = (i : Int) := by omega
  have z4 : (i : Int) ≤ (n : Int) := by omega
  have z5 : (n : Int) ≤ (c : Int) := by omega
  have z6 : (n : Int) ≤ 1000 := by omega
  have z7 : (0 : Int) ≤ (i : Int) := by omega
  have z8 : n - i = m := by omega
  have hkm : max 0 (min most (n : Int)) = (m : Int) := by omega
  cases A with
  | none =>
    obtain rfl : c = 0 := hnil rfl
    obtain rfl : n = 0 := by omega
    obtain rfl : m = 0 := by omega
    obtain rfl : i = 0 := by omega
    obtain rfl : T = [] := List.eq_nil_of_length_eq_zero htl
    have hkm' : max 0 (min most 0) = 0 := by omega
    have hmk' : (Instr.makeSlice 22 (.int .i64 0) (.int .i64 0)).run Tryd.prog w = .ok (.slice (some ⟨w.heap.size, 0, none⟩) 0 0) w1 := hmk
    clear hkm hmk hl htr htl hTx hTz hT hr hz hG hi hm hmn hnil z1 z2 z3 z4 z5 z6 z7 z8
    go_enter Tryd.func19, Tryd.ntmps19
    go_wp2
    go_loopg [7, 8, 23] 1 (fun gk _ _ v23 wr => gk = 1 ∧ v23 = .int .i64 0 ∧ w1 = wr)
    case atStart => exact ⟨rfl, rfl, rfl⟩
    case round =>
      obtain ⟨hg, rfl, rfl⟩ := hrel
      go_wp2
      go_ret
      exact ⟨_, _, rfl, HG.out⟩
  | some ad =>
    obtain ⟨b, off, sp⟩ := ad
    obtain ⟨R, hR⟩ : ∃ R, (if c = i then some ⟨b, off, sp⟩ else some ((⟨b, off, sp⟩ : Addr).add i)) = R := ⟨_, rfl⟩
    have HRR : Hid (∀ k, k < m → ∀ U, Below w.heap.size w U → ∃ (A' : Option Addr) (mm cc : Nat) (x : List C), T[k]? = some x ∧ R = some ⟨b, off + i, none⟩ ∧ U.cell? ⟨b, off + i + k, none⟩ = some (.slice A' mm cc) ∧ Rd U A' mm x ∧ (A' = none → mm = 0 ∧ cc = 0) ∧ mm ≤ 1000) := Lib.hid (fun k hk U hU => by
      obtain ⟨x, hx⟩ : ∃ x, T[k]? = some x := ⟨T[k]'(by rw [HL.out]; exact hk), List.getElem?_eq_getElem _⟩
      obtain ⟨b', off', A', mm, cc, e, _, hc, hrd, hmc, hnl, _⟩ := (HR.out.below hU).at (i + k) x (HTX.out k x hx)
      injection e with e
      injection e with e1 e2 e3
      subst e1 e2 e3
      have hci : ¬ c = i := by omega
      rw [if_neg hci, addr_add] at hR
      exact ⟨A', mm, cc, x, hx, hR.symm, by rw [Nat.add_assoc]; exact hc, hrd, hnl, by rw [← hrd.1]; exact HTZ.out x (List.mem_of_getElem? hx)⟩)
    clear hl htr htl hTx hTz hT hr hz hG hi hm hmn hnil
    go_enter Tryd.func19, Tryd.ntmps19
    go_wp2
    clear hkm
    go_loopg [7, 8, 23] (m + 1) (fun gk _ _ v23 wr => ∃ k : Nat, gk + k = m + 1 ∧ k ≤ m ∧ v23 = .int .i64 (k : Int) ∧ Aside (GR w wr (.slice (some ⟨w.heap.size, 0, none⟩) m m) (T.take k ++ List.replicate (m - k) [])))
    case atStart => exact ⟨0, by omega, Nat.zero_le _, rfl, by show GR _ _ _ _; simpa using HG.out⟩
    case round =>
      obtain ⟨k, hg, hkn, rfl, hA⟩ := hrel
      by_cases hlt : k < m
      · obtain ⟨g', rfl⟩ : ∃ g', gk = g' + 1 := ⟨gk - 1, by omega⟩
        have hz : (k : Int) < (m : Int) := by omega
        have hz0 : (0 : Int) ≤ (k : Int) := by omega
        have HA := Lib.hid hA.out
        obtain ⟨A', mm, cc, x, hx, hRe, hc, hrd, hnl, hm10⟩ := HRR.out k hlt wr HA.out.bel
        clear hR
        subst hRe
        have hmx : x.length = mm := hrd.1
        have HS := Lib.hid (set_next (T.take k) m k x (by rw [List.length_take, HL.out]; omega) hlt)
        have htk : T.take (k + 1) = T.take k ++ [x] := by rw [List.take_add_one, hx]; rfl
        have HTK := Lib.hid htk
        have CC := Lib.hid (cloneN_any A' mm cc x hm10 hnl wr hrd)
        clear hA hx htk hrd
        go_wp2_with fail
        refine CC.out.mono ?_
        rintro e w2 ⟨A2, c2, rfl, hGv, hF⟩
        have hA2 := HA.out.below hGv.2.2
        have hin := GivesIn hGv.1 hGv.2.1 hm10
        have hset := hA2.set k _ _ hlt hin (Off.fresh HA.out hF)
        rw [HS.out] at hset
        obtain ⟨hf, xx, hxx⟩ := hA2.free k hlt
        have HW := Lib.hid hset
        clear hset hin hA2 hGv hF hc CC
        go_wp2
        go_roundg g'
        case measure => omega
        case rel => exact ⟨k + 1, by omega, by omega, by go_num, by rw [HTK.out]; exact HW.out⟩
      · have hz : ¬ (k : Int) < (m : Int) := by omega
        have hq : k = m := by omega
        subst hq
        go_wp2
        go_ret
        refine ⟨_, _, rfl, ?_⟩
        have := hA.out
        rw [Nat.sub_self, List.replicate_zero, List.append_nil, List.take_of_length_le (by rw [HL.out]; exact Nat.le_refl _)] at this
        exact this

theorem Sz.trim {L : List (List C)} (h : Sz L) (m : Int) : Sz (Sb.trim L m) := fun x hx => by
  rw [Sb.trim_drop] at hx
  exact h x (List.mem_of_mem_drop hx)
theorem Sz.app {L M : List (List C)} (a : Sz L) (b : Sz M) : Sz (L ++ M) := fun x hx => by rcases List.mem_append.1 hx with h | h; exact a x h; exact b x h

set_option maxHeartbeats 2000000 in
set_option maxRecDepth 100000 in
theorem push_any (A A2 : Option Addr) (n c n2 c2 : Nat) (L M : List (List C)) (hn : n + n2 ≤ 1000) (hnil : A = none → n = 0 ∧ c = 0) (hnil2 : A2 = none → n2 = 0 ∧ c2 = 0) (w : World) (hr : RdR w A n L) (hr2 : RdR w A2 n2 M) (hz : Sz L) (hz2 : Sz M) :
    Calls Tryd.prog 16 #[.slice A n c, .slice A2 n2 c2] w fun e w' => ∃ A' c', e = .returned (.slice A' (Sb.push L M).length c') ∧ GR w w' (.slice A' (Sb.push L M).length c') (Sb.push L M) := by
  have hl : L.length = n := hr.1
  have hl2 : M.length = n2 := hr2.1
  obtain ⟨V, hV⟩ : ∃ V, w.alloc (.cells #[.slice A n c, .slice A2 n2 c2] 22) = V := ⟨_, rfl⟩
  have bV : Below w.heap.size w V := by rw [← hV]; exact (Below.refl _ _).alloc (Nat.le_refl _) _
  have hp : V.heap[w.heap.size]? = some (.cells [.slice A n c, .slice A2 n2 c2].toArray 22) := by rw [← hV]; exact heap_alloc_new w _
  have CC := Lib.hid (concat_any w.heap.size 2 [.slice A n c, .slice A2 n2 c2] [L, M] V rfl rfl (by omega) hp (fun j v X hj hX => by
    match j, hj, hX with
    | 0, hj, hX =>
      simp at hj hX
      subst hj hX
      exact ⟨A, n, c, rfl, hr.below bV, hnil⟩
    | 1, hj, hX =>
      simp at hj hX
      subst hj hX
      exact ⟨A2, n2, c2, rfl, hr2.below bV, hnil2⟩
    | j + 2, hj, hX => simp at hj) (by simp [List.flatten]; omega))
  have hfl : ([L, M] : List (List (List C))).flatten = L ++ M := by simp
  rw [hfl] at CC
  have HV := Lib.hid bV
  have hpush : Sb.push L M = Sb.trim (L ++ M) 500 := rfl
  rw [hpush]
  have hzz := Sz.app hz hz2
  have hnn : (L ++ M).length ≤ 1000 := by rw [List.length_append]; omega
  generalize L ++ M = X at CC hzz hnn ⊢
  obtain ⟨N, hN⟩ : ∃ N, X.length = N := ⟨_, rfl⟩
  rw [hN] at CC hnn
  have CT := Lib.hid (fun (A' : Option Addr) (c' : Nat) U (hg : GR V U (.slice A' N c') X) => trim_any A' N c' X 500 hnn hg.rd.2.2.1 (fun e => (hg.rd.2.1 e).2) U hg.rd.1 hzz)
  generalize Sb.trim X 500 = T at CT ⊢
  obtain ⟨K, hK⟩ : ∃ K, T.length = K := ⟨_, rfl⟩
  rw [hK] at CT ⊢
  clear hp hr hr2 hz hz2 hl hl2 bV hfl hpush hzz hN hK
  subst hV
  go_enter Tryd.func16, Tryd.ntmps16
  go_wp2_with fail
  refine CC.out.mono ?_
  rintro e w1 ⟨A3, c3, rfl, hg3⟩
  have CT1 := Lib.hid (CT.out A3 c3 w1 hg3)
  have B1 := Lib.hid (HV.out.trans (hg3.bel.mono HV.out.size))
  clear hg3 CT
  go_wp2_with fail
  refine CT1.out.mono ?_
  rintro e w2 ⟨A4, c4, rfl, hg4⟩
  have HG4 := Lib.hid (hg4.rebase B1.out)
  clear hg4
  go_wp2
  go_ret
  exact ⟨_, _, rfl, HG4.out⟩

/-- What Line returns. -/
def lineE (L : List (List C)) (back : Int) : Nat := if 0 ≤ back ∧ back < L.length then 0 else 2
def lineL (L : List (List C)) (back : Int) : List C := if 0 ≤ back ∧ back < L.length then (L[L.length - 1 - back.toNat]?).getD [] else []
theorem lineL_at {L : List (List C)} {k : Nat} (hk : k < L.length) : L[L.length - 1 - k]? = some (lineL L (k : Int)) := by
  unfold lineL
  rw [if_pos (by omega), Int.toNat_natCast, List.getElem?_eq_getElem (by omega)]
  rfl
theorem lineL_sz {L : List (List C)} (h : Sz L) (back : Int) : (lineL L back).length ≤ 1000 := by
  unfold lineL
  split
  · rename_i hb
    rw [List.getElem?_eq_getElem (by omega)]
    exact h _ (List.getElem_mem _)
  · simp

set_option maxHeartbeats 1000000 in
set_option maxRecDepth 100000 in
theorem line_any (A : Option Addr) (n c : Nat) (L : List (List C)) (back : Int) (hn : n ≤ 1000) (w : World) (hr : RdR w A n L) (hz : Sz L) :
    Calls Tryd.prog 13 #[.slice A n c, .int .i64 back] w fun e w' => ∃ A' m c', e = .returned (.tuple #[.slice A' m c', .int .i64 (lineE L back : Nat)]) ∧ GivesC w w' A' m c' (lineL L back) := by
  have hl : L.length = n := hr.1
  have hnz : (n : Int) ≤ 1000 := by omega
  by_cases hb : 0 ≤ back ∧ back < (n : Int)
  · have e1 : lineE L back = 0 := by unfold lineE; rw [hl, if_pos hb]
    obtain ⟨k, rfl⟩ : ∃ k : Nat, back = (k : Int) := ⟨back.toNat, by omega⟩
    obtain ⟨j, hj⟩ : ∃ j, n - 1 - k = j := ⟨_, rfl⟩
    have hx := lineL_at (L := L) (k := k) (by omega)
    rw [hl, hj] at hx
    obtain ⟨b, off, A', m, cc, rfl, _, hc, hrd, hmc, hnl, _⟩ := hr.at j _ hx
    have hm : m ≤ 1000 := by rw [← hrd.1]; exact lineL_sz hz _
    have CC := Lib.hid (cloneN_any A' m cc _ hm hnl w hrd)
    rw [e1]
    generalize lineL L (k : Int) = l at CC
    have z1 : ¬ (k : Int) < 0 := by omega
    have z2 : ¬ (n : Int) ≤ (k : Int) := by omega
    have z3 : (n : Int) - 1 - (k : Int) = (j : Int) := by omega
    have z4 : (j : Int) < (n : Int) := by omega
    have z5 : (0 : Int) ≤ (j : Int) := by omega
    have z6 : (0 : Int) ≤ (k : Int) := by omega
    clear hx hrd hj hl hb e1 hr hz hnl
    go_enter Tryd.func13, Tryd.ntmps13
    go_wp2_with fail
    refine CC.out.mono ?_
    rintro e w1 ⟨A2, c2, rfl, hg, hf⟩
    have HG := Lib.hid hg
    clear hg hf
    go_wp2
    go_ret2
    exact ⟨_, _, _, rfl, HG.out⟩
  · have e1 : lineE L back = 2 := by unfold lineE; rw [hl, if_neg hb]
    have e2 : lineL L back = [] := by unfold lineL; rw [hl, if_neg hb]
    rw [e1, e2]
    rcases (by omega : back < 0 ∨ (¬ back < 0 ∧ (n : Int) ≤ back)) with h1 | ⟨h1, h2⟩
    all_goals
      clear hb hr hz e1 e2 hl
      go_enter Tryd.func13, Tryd.ntmps13
      go_wp2
      go_ret2
      exact ⟨none, 0, 0, rfl, gives_nil (Below.refl _ _)⟩

end Go.Proofs.YtgmgnlgolhjhmaaDoor
