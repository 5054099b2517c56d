/-
  The statement on the limit of a scrollback returns true.
-/
import Derived.Test.YtgmgnlgolhjhmaaDoorSbLaws
namespace Go.Proofs.YtgmgnlgolhjhmaaDoor
open Go.RowKit Go.Shelf Cr Gd

/-- The rows that the statement lays: a cell of each width. -/
def wr1 (i : Nat) : C := ⟨⟨#[]⟩, (i : Int), 0, 0, 0⟩
def widths (k : Nat) : List (List C) := (List.range k).map (fun i => [wr1 i])
theorem widths_length (k : Nat) : (widths k).length = k := by simp [widths]
theorem widths_succ (k : Nat) : widths (k + 1) = widths k ++ [[wr1 k]] := by simp [widths, List.range_succ]
theorem widths_get {k i : Nat} (h : i < k) : (widths k)[i]? = some [wr1 i] := by simp [widths, h]
theorem widths_sz (k : Nat) : Sz (widths k) := fun l hl => by
  obtain ⟨i, _, rfl⟩ := List.mem_map.1 hl
  simp
/-- What is in the place i of what was pushed. -/
theorem push_get (n : Nat) (L : List (List C)) (i : Nat) (x : List C) (f : Nat) (hf : n + L.length - (Sb.push (widths n) L).length = f) (hx : (Sb.push (widths n) L)[i]? = some x) :
    (f + i < n → x = [wr1 (f + i)]) ∧ (¬ f + i < n → L[f + i - n]? = some x) := by
  have h := Sb.push_at (widths n) L i
  rw [hx, widths_length] at h
  have hl := Sb.push_length (widths n) L
  rw [widths_length] at hl
  have e : n + L.length - 500 = f := by omega
  rw [e] at h
  constructor
  · intro hlt
    rw [List.getElem?_append_left (by rw [widths_length]; exact hlt), widths_get hlt] at h
    exact Option.some.inj h
  · intro hge
    rw [List.getElem?_append_right (by rw [widths_length]; omega), widths_length] at h
    exact h.symm

set_option maxHeartbeats 2000000 in
set_option maxRecDepth 100000 in
theorem limit_walk (A : Option Addr) (n c : Nat) (L : List (List C)) (t : Int) (w : World) (hr : RdR w A n L) (_hnc : n ≤ c) (_hmax : n ≤ 9223372036854775807) (hnil : A = none → n = 0 ∧ c = 0) (a1 : 0 ≤ t) (b1 : t ≤ 65535) (hT : Lib.Utf8Tabs 0 1 w) :
    Calls Tryd.prog 6 #[.slice A n c, .int .u16 t] w fun e w' => e = .returned (.bool true) ∧ Below w.heap.size w w' := by
  have CG := Lib.hid (greatS_any A n c L w hr)
  have HT := Lib.hid (fun U (h : Below w.heap.size w U) => Utf8Tabs_below hT h)
  have CW := Lib.hid (fun U (hu : Below w.heap.size w U) => awake_true U (HT.out U hu))
  clear hT
  cases hg : greatS L
  · rw [hg, if_neg (by decide)] at CG
    obtain ⟨hl12, _, hlen⟩ := greatS_false hg
    have hlL : L.length = n := hr.1
    have hz : Sz L := fun l hl => by have := hlen l hl; omega
    obtain ⟨y, rfl⟩ : ∃ y : Nat, t = (y : Int) := ⟨t.toNat, by omega⟩
    obtain ⟨m, hm⟩ : ∃ m, y % 520 = m := ⟨_, rfl⟩
    have hm520 : m < 520 := by rw [← hm]; exact Nat.mod_lt _ (by decide)
    have m1 : (y : Int).tmod 520 = (m : Int) := by rw [← hm]; exact (Int.ofNat_tmod y 520).symm
    have v1 : IntKind.i64.wrap (y : Int) = (y : Int) := by rw [IntKind.wrap_i64]; omega
    have v2 : IntKind.i64.wrap (m : Int) = (m : Int) := by rw [IntKind.wrap_i64]; omega
    have mz : (m : Int) ≤ 520 := by omega
    have mz0 : (0 : Int) ≤ (m : Int) := by omega
    have nz : (n : Int) ≤ 12 := by omega
    have CP := Lib.hid (fun (A1 : Option Addr) (d1 : Nat) U (hG : GR w U (.slice A1 m d1) (widths m)) => push_any A1 A m d1 n c (widths m) L (by omega) hG.rd.2.1 hnil U hG.rd.1 (hr.below hG.bel) (widths_sz m) hz)
    have hPG := fun (i : Nat) (x : List C) => push_get m L i x
    have hPZ : Sz (Sb.push (widths m) L) := Sz.push (widths_sz m) hz
    have hPL := Sb.push_length (widths m) L
    rw [widths_length, hlL] at hPL
    rw [hlL] at hPG
    generalize Sb.push (widths m) L = P at CP hPG hPZ hPL
    obtain ⟨K, hK⟩ : ∃ K, P.length = K := ⟨_, rfl⟩
    rw [hK] at CP hPL
    obtain ⟨f, hf⟩ : ∃ f, m + n - K = f := ⟨_, rfl⟩
    have HPG := Lib.hid (fun (i : Nat) (x : List C) (hx : P[i]? = some x) => hPG i x f (by rw [hK]; exact hf) hx)
    have HPZ := Lib.hid hPZ
    have HPL := Lib.hid hK
    have z1 : min ((m : Int) + (n : Int)) 500 = (K : Int) := by omega
    have z2 : (m : Int) + (n : Int) - (K : Int) = (f : Int) := by omega
    have z3 : (K : Int) ≤ 500 := by omega
    have z4 : (f : Int) ≤ 32 := by omega
    have z5 : ((K : Int) != (K : Int)) = false := by simp
    have HFK := Lib.hid (show f + K = m + n by omega)
    have HRL := Lib.hid (fun U (h : Below w.heap.size w U) => hr.below h)
    have HM := Lib.hid hm520
    have HZL := Lib.hid hz
    clear hm hm520 hg hl12 hlen hlL hz hPG hPZ hK hPL hf hnil hr
    go_enter Tryd.func6, Tryd.ntmps6
    go_wp2_with fail
    refine CG.out.mono ?_
    rintro e v0 ⟨rfl, rfl⟩
    go_wp2
    go_loopg [6, 7, 22] (m + 1) (fun gk v6 _ v22 wr => ∃ k : Nat, gk + k = m + 1 ∧ k ≤ m ∧ v22 = .int .i64 (k : Int) ∧ ∃ (A1 : Option Addr) (d1 : Nat), v6 = .slice A1 k d1 ∧ Aside (GR w wr (.slice A1 k d1) (widths k)))
    case atStart => exact ⟨0, by omega, Nat.zero_le _, rfl, _, 0, rfl, GR.empty w⟩
    case round =>
      obtain ⟨k, hgk, hkm, rfl, A1, d1, rfl, hA⟩ := hrel
      by_cases hlt : k < m
      · obtain ⟨gf, rfl⟩ : ∃ gf, gk = gf + 1 := ⟨gk - 1, by omega⟩
        have hz : (k : Int) < (m : Int) := by omega
        have hz0 : (0 : Int) ≤ (k : Int) := by omega
        have hG := hA.out
        obtain ⟨o, ho⟩ : ∃ o, Obj.cells #[.string ⟨#[]⟩, .int .i64 (k : Int), .int .i64 0, .int .i64 0, .int .i64 0] 46 = o := ⟨_, rfl⟩
        have bA := (Below.refl wr.heap.size wr).alloc (Nat.le_refl _) o
        have hin : In (wr.alloc o) (.slice (some ⟨wr.heap.size, 0, none⟩) 1 1) [wr1 k] := ⟨_, 1, 1, rfl, by rw [← ho]; exact (Own.laid wr [wr1 k] _ 1 rfl (by decide) rfl).rd.1, Nat.le_refl _, (fun e => by cases e), by decide⟩
        have hoff : Off (.slice A1 k d1) (.slice (some ⟨wr.heap.size, 0, none⟩) 1 1) := Off.fresh hG (fun p e => by injection e with e; rw [← e]; exact Nat.le_refl _)
        have hy := RdQ.one hin hoff
        have e : (wr.alloc o).heap.size = wr.heap.size + 1 := by simp
        rw [e] at hy
        have Gx := (hG.alloc o).alloc (.cells #[.slice (some ⟨wr.heap.size, 0, none⟩) 1 1] 25)
        obtain ⟨j, hj⟩ : ∃ j, k + 1 = j := ⟨_, rfl⟩
        have hll : (widths k).length + ([[wr1 k]] : List (List C)).length = j := by rw [widths_length, ← hj]; rfl
        obtain ⟨A4, c4, w4, hrun, hG4, _⟩ := run_joinR 22 w _ _ (widths k) [[wr1 k]] _ 1 1 Gx hy (fun e => by cases e) (by rw [hll]; have := HM.out; omega)
        rw [hll] at hrun hG4
        rw [← widths_succ, hj] at hG4
        subst ho
        have HRUN : Hid (∀ ty, (Builtin.append_ #[22, 22] ty #[.slice A1 k d1, .slice (some ⟨wr.heap.size + 1, 0, none⟩) 1 1]).run Tryd.prog ((wr.alloc (.cells #[.string ⟨#[]⟩, .int .i64 (k : Int), .int .i64 0, .int .i64 0, .int .i64 0] 46)).alloc (.cells #[.slice (some ⟨wr.heap.size, 0, none⟩) 1 1] 25)) = .ok (.slice A4 j c4) w4) := Lib.hid (fun ty => hrun)
        have HG4 := Lib.hid hG4
        have HJ := Lib.hid hj
        clear hA hG bA hin hoff hy Gx hll hrun hG4 hj e
        go_wp2_with (at_builtin; refine Lib.wpList_append_run _ rfl (.tmp 25) (.tmp 29) _ _ rfl _ _ rfl rfl _ _ (HRUN.out _) ?_)
        go_roundg gf
        case measure => omega
        case rel =>
          have := HJ.out
          subst this
          exact ⟨k + 1, by omega, by omega, by go_num, A4, c4, rfl, HG4.out⟩
      · have hz : ¬ (k : Int) < (m : Int) := by omega
        have hk : k = m := by omega
        subst hk
        have CPx := Lib.hid (CP.out A1 d1 wr hA.out)
        have BW := Lib.hid hA.out.bel
        clear hA CP
        go_wp2_with fail
        refine CPx.out.mono ?_
        rintro e w1 ⟨A5, d5, rfl, g5⟩
        have B5 := Lib.hid (BW.out.trans (g5.bel.mono BW.out.size))
        have R5 := Lib.hid g5.rd.1
        clear g5 CPx
        go_wp2
        clear z1
        go_loopg [10, 11, 12, 52] (K + 1) (fun gk _ _ _ v52 wr => ∃ i : Nat, gk + i = K + 1 ∧ i ≤ K ∧ v52 = .int .i64 (i : Int) ∧ Aside (Below w1.heap.size w1 wr))
        case atStart => exact ⟨0, by omega, Nat.zero_le _, rfl, Below.refl _ _⟩
        case round =>
          obtain ⟨i, hgk, hiK, rfl, hA⟩ := hrel
          by_cases hlt : i < K
          · obtain ⟨gf, rfl⟩ : ∃ gf, gk = gf + 1 := ⟨gk - 1, by omega⟩
            have hz : (i : Int) < (K : Int) := by omega
            have hz0 : (0 : Int) ≤ (i : Int) := by omega
            have HA := Lib.hid hA.out
            obtain ⟨x, hx⟩ : ∃ x, P[i]? = some x := ⟨P[i]'(by rw [HPL.out]; exact hlt), List.getElem?_eq_getElem _⟩
            obtain ⟨hp1, hp2⟩ := HPG.out i x hx
            obtain ⟨b, off, A6, m6, d6, hA5, hb, hc, hrd, hmc, hnl, _⟩ := (R5.out.below HA.out).at i x hx
            subst hA5
            obtain ⟨q, hq⟩ : ∃ q, f + i = q := ⟨_, rfl⟩
            rw [hq] at hp1 hp2
            have hqz : (f : Int) + (i : Int) = (q : Int) := by omega
            have hq600 : (q : Int) ≤ 600 := by omega
            have hxz := HPZ.out x (List.mem_of_getElem? hx)
            by_cases hqk : q < k
            · have hd1 : decide ((q : Int) < (k : Int)) = true := decide_eq_true (by omega)
              have hd2 : decide ((k : Int) ≤ (q : Int)) = false := decide_eq_false (by omega)
              have hxx := hp1 hqk
              subst hxx
              obtain rfl : m6 = 1 := hrd.1.symm
              obtain ⟨b2, o2, rfl⟩ := hrd.addr (by decide)
              have hrow := (first_at hrd).2.1
              have hrow2 : wr.cell? ⟨b2, o2 + 1, none⟩ = some (.int .i64 (q : Int)) := hrow
              have hne : ((q : Int) != (q : Int)) = false := by simp
              clear hA hx hp1 hp2 hrd hrow hq hxz
              go_wp2
              go_roundg gf
              case measure => omega
              case rel => exact ⟨i + 1, by omega, by omega, by go_num, HA.out⟩
            · have hd1 : decide ((q : Int) < (k : Int)) = false := decide_eq_false (by omega)
              have hd2 : decide ((k : Int) ≤ (q : Int)) = true := decide_eq_true (by omega)
              obtain ⟨j, hj⟩ : ∃ j, q - k = j := ⟨_, rfl⟩
              have hxl := hp2 hqk
              rw [hj] at hxl
              have hjz : (q : Int) - (k : Int) = (j : Int) := by omega
              have hj0 : (0 : Int) ≤ (j : Int) := by omega
              have hwB : Below w.heap.size w wr := B5.out.trans (HA.out.mono B5.out.size)
              obtain ⟨b3, off3, A7, m7, d7, hA7, hb3, hc3, hrd3, _⟩ := (HRL.out wr hwB).at j x hxl
              subst hA7
              have hjn : (j : Int) < (n : Int) := by have := (List.getElem?_eq_some_iff.1 hxl).1; have := (HRL.out wr hwB).1; omega
              have hm6 : m6 ≤ 1000 := by rw [← hrd.1]; exact hxz
              have hm7 : m7 ≤ 1000 := by rw [← hrd3.1]; exact hxz
              have S1 := Lib.hid (same_any A6 A7 m6 m7 d6 d7 x x wr hrd hrd3 hm6 hm7)
              rw [decide_eq_true rfl] at S1
              clear hA hx hp1 hp2 hrd hrd3 hxl hq hj hwB hxz
              go_wp2_with fail
              refine S1.out.mono ?_
              rintro e w7 ⟨rfl, b7⟩
              have B7 := Lib.hid (HA.out.trans (b7.mono HA.out.size))
              clear b7 S1 hc hc3
              go_wp2
              go_roundg gf
              case measure => omega
              case rel => exact ⟨i + 1, by omega, by omega, by go_num, B7.out⟩
          · have hz : ¬ (i : Int) < (K : Int) := by omega
            have hik : i = K := by omega
            subst hik
            have B6 := Lib.hid (B5.out.trans (hA.out.mono B5.out.size))
            have CW6 := Lib.hid (CW.out wr B6.out)
            clear hA
            go_wp2_with fail
            refine CW6.out.mono ?_
            rintro e w7 ⟨rfl, b7⟩
            have B7 := Lib.hid (B6.out.trans (b7.mono B6.out.size))
            clear b7
            go_wp2
            go_ret
            exact ⟨rfl, B7.out⟩
  · rw [hg, if_pos rfl] at CG
    clear hg hnil hr
    have CW1 := Lib.hid (CW.out w (Below.refl _ _))
    go_enter Tryd.func6, Tryd.ntmps6
    go_wp2_with fail
    refine CG.out.mono ?_
    rintro e v0 ⟨rfl, rfl⟩
    go_wp2_with fail
    refine CW1.out.mono ?_
    rintro e w2 ⟨rfl, b2⟩
    have B2 := Lib.hid b2
    clear b2
    go_wp2
    go_ret
    exact ⟨rfl, B2.out⟩

end Go.Proofs.YtgmgnlgolhjhmaaDoor
