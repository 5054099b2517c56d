/-
  What the document's own Split of layer 3 returns, for every list of at most 1000 numbers: the strings of the clusters of the plain mathematics.
-/
import Derived.Test.YtjoaaehfplcanaaDoorRefCl
import Derived.Test.YtjoaaehfplcanaaDoorStrs
import Derived.Deep.RegionLaw
namespace Go.Proofs.YtjoaaehfplcanaaDoor
open Go.RowKit Go.Shelf

/-- The last string of a row, in every world that keeps what is there; and the row behind a store to it. -/
theorem OutS.last {w0 w : World} {v : Value} {ss : List ByteArray} {x : ByteArray} (h : OutS w0 w v (ss ++ [x])) :
    ∃ k cap, v = .slice (some ⟨k, 0, none⟩) (ss.length + 1) cap ∧ ∀ w', Below w.heap.size w w' → w'.cell? ⟨k, ss.length, none⟩ = some (.string x) ∧ w'.frozen? ⟨k, ss.length, none⟩ = false ∧
      ∀ y : ByteArray, OutS w0 (w'.setCell ⟨k, ss.length, none⟩ (.string y)) v (ss ++ [y]) := by
  have hn : (ss ++ [x]).length = ss.length + 1 := by simp
  rcases h.1.2 with ⟨_, e0⟩ | ⟨k, cap, cur, e, hk, hg, _⟩
  · rw [hn] at e0; omega
  · rw [hn] at e
    refine ⟨k, cap, e, fun w' hb => ?_⟩
    have h' := h.below hb
    have hown := h'.1
    rw [e, hn] at hown
    refine ⟨?_, hown.frozenAt _, fun y => ?_⟩
    · rw [hown.cellAt ss.length (by omega)]
      simp
    · have hs := hown.stored ss.length (.string y)
      have e2 : ((ss ++ [x]).map Value.string).set ss.length (.string y) = (ss ++ [y]).map Value.string := by simp
      have e3 : (ss ++ [y]).length = ss.length + 1 := by simp
      refine ⟨?_, h'.2.setCell (by show w0.heap.size ≤ k; exact hk) _⟩
      rw [e, e3, ← e2]
      exact hs.1

theorem full_last' {o : List (List Int)} {c : List Int} (hc : c ≠ []) : (Cl.full (o, c)).map Cl.str = o.map Cl.str ++ [Cl.str c] := by
  unfold Cl.full
  rw [if_neg hc, List.map_append]
  rfl
theorem take_go' (xs : List Int) (k : Nat) (hk : k < xs.length) : Cl.go ([], []) (xs.take (k + 1)) = Cl.step (Cl.go ([], []) (xs.take k)) (xs.getD k 0) := by
  rw [Cw.take_succ xs k hk, Cl.go_snoc]
theorem str_space : Cl.str [32] = ⟨#[32]⟩ := Cl.same_bytes (by rw [Cl.str_data]; decide)

/-- The same with names for the numbers. -/
theorem OutS.lastN {w0 w : World} {v : Value} {ss : List ByteArray} {x : ByteArray} (h : OutS w0 w v (ss ++ [x])) :
    ∃ k cap n n1 : Nat, n = ss.length ∧ n1 = n + 1 ∧ v = .slice (some ⟨k, 0, none⟩) n1 cap ∧ ∀ w', Below w.heap.size w w' → (w'.cell? ⟨k, n, none⟩ = some (.string x) ∧ w'.frozen? ⟨k, n, none⟩ = false) ∧
      ∀ y : ByteArray, OutS w0 (w'.setCell ⟨k, n, none⟩ (.string y)) v (ss ++ [y]) := by
  obtain ⟨k, cap, e, h'⟩ := h.last
  exact ⟨k, cap, ss.length, ss.length + 1, rfl, rfl, e, fun w' hb => ⟨⟨(h' w' hb).1, (h' w' hb).2.1⟩, (h' w' hb).2.2⟩⟩

/-- What the loop has so far. -/
def RefAt (w0 w : World) (v : Value) (m : Value) (st : List (List Int) × List Int) : Prop :=
  OutS w0 w v ((Cl.full st).map Cl.str) ∧ ∃ z : Int, m = .int .i64 z ∧ (st.2 ≠ [] → z = (st.2.length : Int) - 1)

set_option maxHeartbeats 4000000 in
set_option maxRecDepth 100000 in
theorem refsplit_any (A : Option Addr) (n c B : Nat) (xs : List Int) (w : World) (hB : B ≤ w.heap.size) (hX : Nums w B A n xs) (hbig : n ≤ 1000) (hrange : ∀ z ∈ xs, -2147483648 ≤ z ∧ z ≤ 2147483647) :
    Calls Tryd.prog 15 #[.slice A n c] w fun e w' => ∃ A' n' c', e = .returned (.slice A' n' c') ∧ GivesS w w' A' n' c' ((Cl.split xs).map Cl.str) := by
  have HR := Lib.hid hrange
  clear hrange
  go_enter Tryd.func15, Tryd.ntmps15
  go_wp2
  go_loopg [3, 4, 5] (n + 1) (fun gk v m i wr => ∃ k : Nat, gk + k = n + 1 ∧ k ≤ n ∧ i = .int .i64 (k : Int) ∧ Aside (RefAt w wr v m (Cl.go ([], []) (xs.take k))))
  case atStart => exact ⟨0, by omega, Nat.zero_le _, rfl, ⟨OutS.start w, 0, rfl, fun h => absurd rfl h⟩⟩
  case round =>
    obtain ⟨k, hg, hkn, rfl, hat⟩ := hrel
    have HL := Lib.hid hX.1
    by_cases hlt : k < n
    · obtain ⟨g', rfl⟩ : ∃ g', gk = g' + 1 := ⟨gk - 1, by omega⟩
      have hz : (k : Int) < (n : Int) := by omega
      have hz0 : (0 : Int) ≤ (k : Int) := by omega
      have hkx : k < xs.length := by rw [HL.out]; exact hlt
      obtain ⟨b, off, rfl, hb, hc⟩ := hX.2 k hlt
      have hbw : b < w.heap.size := Nat.lt_of_lt_of_le hb hB
      have HT := Lib.hid (take_go' xs k hkx)
      have HK := Lib.hid (Cl.keeps_go (xs.take k))
      have hlen : (Cl.full (Cl.go ([], []) (xs.take k))).length ≤ 1000 := by
        have := Cl.split_len (xs.take k)
        have h2 : (xs.take k).length ≤ k := by rw [List.length_take]; omega
        unfold Cl.split at this
        omega
      have hr1 := (HR.out (xs.getD k 0) (by simp [hkx])).1
      have hr2 := (HR.out (xs.getD k 0) (by simp [hkx])).2
      generalize Cl.go ([], []) (xs.take k) = st at hat HT HK hlen
      generalize xs.getD k 0 = r at hc HT hr1 hr2
      have HX := Lib.hid hX
      clear hX
      obtain ⟨hout, z, rfl, hzm⟩ := hat.out
      have HAT := hat
      clear hat
      have hcell : wr.cell? ⟨b, off + k, none⟩ = some (.int .i32 r) := (hout.2.cell (p := ⟨b, off + k, none⟩) hbw).trans hc
      have cM := refMark_cl r wr
      obtain ⟨o, cc⟩ := st
      cases hr : Cl.isMark r
      · rw [hr] at cM
        have cW := fun W => refWidth_any r W
        cases hbs : Cl.isBase r
        · have hw := Cl.other_ctl hr hbs
          rw [hw] at cW
          have HQ : Hid (Cl.step (o, cc) r = (o, cc)) := Lib.hid (Cl.step_ctl _ hr hbs)
          have HO := Lib.hid hout
          have HZ := Lib.hid hzm
          clear hr hw hbs hout hzm
          go_wp2_with fail
          refine cM.mono ?_
          rintro e w1 ⟨rfl, b1⟩
          have hcell1 : w1.cell? ⟨b, off + k, none⟩ = some (.int .i32 r) := (((HO.out.below b1).2).cell (p := ⟨b, off + k, none⟩) hbw).trans hc
          go_wp2_with fail
          refine (cW w1).mono ?_
          rintro e w2 ⟨rfl, b2⟩
          have ho2 : Aside (OutS w w2 u3 ((Cl.full (o, cc)).map Cl.str)) := (HO.out.below b1).below b2
          clear hcell hcell1 b1 b2 cM cW
          go_wp2
          go_roundg g'
          case measure => omega
          case rel => exact ⟨k + 1, by omega, by omega, by go_num, by rw [HT.out, HQ.out]; exact ⟨ho2.out, z, rfl, HZ.out⟩⟩
        · have hw : 0 < Cw.wd r := by unfold Cl.isBase at hbs; simpa using hbs
          obtain ⟨wz, hwz⟩ : ∃ wz, Cw.wd r = wz := ⟨_, rfl⟩
          rw [hwz] at cW hw
          have hw1 : ¬ wz < 1 := by omega
          have cE := fun W => refenc_one r W hr1 hr2
          obtain ⟨y, hy⟩ : ∃ y, Cl.str [r] = y := ⟨_, rfl⟩
          rw [hy] at cE
          have HQ : Hid ((Cl.full (Cl.step (o, cc) r)).map Cl.str = (Cl.full (o, cc)).map Cl.str ++ [y] ∧ (Cl.step (o, cc) r).2 = [r]) := Lib.hid (by
            rw [Cl.step_base _ hbs, full_last' (by simp), hy]
            exact ⟨rfl, rfl⟩)
          obtain ⟨ss, hss⟩ : ∃ ss, (Cl.full (o, cc)).map Cl.str = ss := ⟨_, rfl⟩
          have hsl : ss.length ≤ 100000 := by rw [← hss, List.length_map]; omega
          rw [hss] at hout HQ
          have HO := Lib.hid hout
          clear hr hbs hout hzm hwz hy hss
          go_wp2_with fail
          refine cM.mono ?_
          rintro e w1 ⟨rfl, b1⟩
          have hcell1 : w1.cell? ⟨b, off + k, none⟩ = some (.int .i32 r) := (((HO.out.below b1).2).cell (p := ⟨b, off + k, none⟩) hbw).trans hc
          go_wp2_with fail
          refine (cW w1).mono ?_
          rintro e w2 ⟨rfl, b2⟩
          have ho2 := (HO.out.below b1).below b2
          have hcell2 : w2.cell? ⟨b, off + k, none⟩ = some (.int .i32 r) := (ho2.2.cell (p := ⟨b, off + k, none⟩) hbw).trans hc
          clear hcell hcell1 b1 b2 cM cW
          go_wp2_with fail
          refine (cE w2).mono ?_
          rintro e w3 ⟨rfl, b3⟩
          have ho3 := ho2.below b3
          clear hcell2 ho2 b3 cE
          go_wp2_with (at_builtin; refine wpList_pushS rfl (.tmp 50) (.tmp 56) rfl w w3 _ ss y rfl rfl ho3 hsl ?_; intro v4 w4 ho4)
          go_roundg g'
          case measure => omega
          case rel =>
            refine ⟨k + 1, by omega, by omega, by go_num, ?_⟩
            rw [HT.out]
            exact ⟨by rw [HQ.out.1]; exact ho4, 0, rfl, fun _ => by rw [HQ.out.2]; rfl⟩
      · rw [hr] at cM
        by_cases hcc : cc = []
        · subst hcc
          obtain rfl : o = [] := HK.out.2.1 rfl
          obtain ⟨y, hy⟩ : ∃ y, Cl.str [r] = y := ⟨_, rfl⟩
          have hys : y.size ≤ 4 := by rw [← hy]; exact Cl.str_size [r]
          have cE := fun W => refenc_one r W hr1 hr2
          rw [hy] at cE
          have HQ : Hid ((Cl.full (Cl.step ([], []) r)).map Cl.str = [⟨#[32]⟩ ++ y] ∧ (Cl.step ([], []) r).2 = [32, r]) := Lib.hid (by
            have e : Cl.str [32, r] = Cl.str [32] ++ Cl.str [r] := Cl.str_snoc [32] r
            rw [Cl.step_first _ hr, full_last' (by simp), e, str_space, hy]
            exact ⟨rfl, rfl⟩)
          have HO : Hid (OutS w wr u3 []) := Lib.hid hout
          obtain ⟨A3, n3, c3, hv3, hn3⟩ : ∃ A3 n3 c3, u3 = .slice A3 n3 c3 ∧ n3 = 0 := by
            obtain ⟨A3, n3, c3, hv3, hg3⟩ := HO.out.gives
            exact ⟨A3, n3, c3, hv3, hg3.1.1.symm⟩
          subst hv3 hn3
          have hcat : ¬ 9223372036854775807 < 1 + y.size := by omega
          clear hr hout hzm hy
          go_wp2_with fail
          refine cM.mono ?_
          rintro e w1 ⟨rfl, b1⟩
          have ho1 := HO.out.below b1
          clear hcell b1 cM
          go_wp2_with (at_builtin; refine wpList_pushS rfl (.tmp 20) (.tmp 21) rfl w w1 _ [] ⟨#[32]⟩ rfl rfl ho1 (by simp) ?_; intro v4 w4 ho4; obtain ⟨q, cap, nn, n1, hnn, hn1, hv4, hq⟩ := OutS.lastN (ss := []) ho4; have HNN : Hid (nn ≤ 1000) := Lib.hid (by rw [hnn]; simp); have HN1 := Lib.hid hn1; subst hv4; clear hnn hn1; have hcell4 : w4.cell? ⟨b, off + k, none⟩ = some (.int .i32 r) := (ho4.2.cell (p := ⟨b, off + k, none⟩) hbw).trans hc; obtain ⟨hq1, hq2⟩ := (hq w4 (Below.refl _ _)).1)
          have hw : IntKind.i64.wrap ((n1 : Int) - 1) = (nn : Int) := by have hn1 := HN1.out; have hnn := HNN.out; rw [IntKind.wrap_i64]; omega
          have hi0 : (0 : Int) ≤ (nn : Int) := by omega
          have hi1 : (nn : Int) < (n1 : Int) := by have hn1 := HN1.out; omega
          have HQQ := Lib.hid hq
          have cE' : Calls Tryd.prog 35 #[.int .i32 r] w4.drew (fun e w' => e = .returned (.string y) ∧ Below w4.heap.size w4 w') := (cE w4.drew).mono fun _ _ ⟨h1, h2⟩ => ⟨h1, ⟨h2.os, h2.tape, h2.output, h2.size, h2.block⟩⟩
          clear hq cE
          go_region_law (first | (go_simp; refine cE'.mono ?_; rintro e w' ⟨rfl, hb'⟩; have hk' := (HQQ.out w' hb').1; obtain ⟨hk1, hk2⟩ := hk'))
          all_goals
            have ho5 : Aside (OutS w (w'.setCell ⟨q, nn, none⟩ (.string (⟨#[32]⟩ ++ y))) (.slice (some ⟨q, 0, none⟩) n1 cap) ([] ++ [⟨#[32]⟩ ++ y])) := (HQQ.out w' hb').2 _
            generalize w'.setCell ⟨q, nn, none⟩ (.string (⟨#[32]⟩ ++ y)) = w5 at ho5 ⊢
            clear hk1 hk2 hb' cE' hq1 hq2 hcell4
            go_wp2
            go_roundg g'
            case measure => omega
            case rel =>
              refine ⟨k + 1, by omega, by omega, by go_num, ?_⟩
              rw [HT.out]
              refine ⟨by rw [HQ.out.1]; exact ho5.out, _, rfl, fun _ => ?_⟩
              rw [HQ.out.2]
              rfl
        · have hzm' : z = (cc.length : Int) - 1 := hzm hcc
          have hcl : 0 < cc.length := List.length_pos_iff.2 hcc
          have hc4 : cc.length ≤ 4 := (HK.out.2.2 hcc).len
          have hxs := Cl.str_size cc
          rw [full_last' hcc] at hout
          have hsl : (o.map Cl.str).length ≤ 1000 := by
            have e := congrArg List.length (full_last' (o := o) hcc)
            rw [List.length_map, List.length_append] at e
            omega
          by_cases hc3 : cc.length < 4
          · obtain ⟨y, hy⟩ : ∃ y, Cl.str [r] = y := ⟨_, rfl⟩
            have hys : y.size ≤ 4 := by rw [← hy]; exact Cl.str_size [r]
            have cE := fun W => refenc_one r W hr1 hr2
            rw [hy] at cE
            have HQ : Hid ((Cl.full (Cl.step (o, cc) r)).map Cl.str = o.map Cl.str ++ [Cl.str cc ++ y] ∧ (Cl.step (o, cc) r).2 = cc ++ [r]) := Lib.hid (by
              rw [Cl.step_room _ hr hcc hc3, full_last' (by simp), Cl.str_snoc, hy]
              exact ⟨rfl, rfl⟩)
            generalize Cl.str cc = x at hout HQ hxs
            generalize o.map Cl.str = ss at hout HQ hsl
            have hcat : ¬ 9223372036854775807 < x.size + y.size := by omega
            have hz3 : z < 3 := by omega
            have HZ : Hid (z + 1 = ((cc ++ [r]).length : Int) - 1) := Lib.hid (by simp only [List.length_append, List.length_cons, List.length_nil]; omega)
            have hzb : 0 ≤ z := by omega
            clear hr hzm hy hzm' hxs
            obtain ⟨q, cap, nn, n1, hnn, hn1, hv4, hqq⟩ := hout.lastN
            have hnl : nn ≤ 1000 := by omega
            subst hv4
            have HO := Lib.hid hout
            have HQ0 := Lib.hid hqq
            have hne0 : ((n1 : Int) == 0) = false := by simp; omega
            have HNN := Lib.hid hnl
            have HN1 := Lib.hid hn1
            clear hout hqq hnn hn1 hnl
            go_wp2_with fail
            refine cM.mono ?_
            rintro e w4 ⟨rfl, b1⟩
            have hq : ∀ w', Below w4.heap.size w4 w' → (w'.cell? ⟨q, nn, none⟩ = some (.string x) ∧ w'.frozen? ⟨q, nn, none⟩ = false) ∧ ∀ y : ByteArray, OutS w (w'.setCell ⟨q, nn, none⟩ (.string y)) (.slice (some ⟨q, 0, none⟩) n1 cap) (ss ++ [y]) := fun w' hb => HQ0.out w' (b1.trans (hb.mono b1.size))
            have hcell4 : w4.cell? ⟨b, off + k, none⟩ = some (.int .i32 r) := ((HO.out.below b1).2.cell (p := ⟨b, off + k, none⟩) hbw).trans hc
            obtain ⟨hq1, hq2⟩ := (hq w4 (Below.refl _ _)).1
            clear hcell b1 cM
            go_wp2_with fail
            have hw : IntKind.i64.wrap ((n1 : Int) - 1) = (nn : Int) := by have hn1 := HN1.out; have hnn := HNN.out; rw [IntKind.wrap_i64]; omega
            have hi0 : (0 : Int) ≤ (nn : Int) := by omega
            have hi1 : (nn : Int) < (n1 : Int) := by have hn1 := HN1.out; omega
            have HQQ := Lib.hid hq
            have cE' : Calls Tryd.prog 35 #[.int .i32 r] w4.drew (fun e w' => e = .returned (.string y) ∧ Below w4.heap.size w4 w') := (cE w4.drew).mono fun _ _ ⟨h1, h2⟩ => ⟨h1, ⟨h2.os, h2.tape, h2.output, h2.size, h2.block⟩⟩
            clear hq cE
            go_region_law (first | (go_simp; refine cE'.mono ?_; rintro e w' ⟨rfl, hb'⟩; have hk' := (HQQ.out w' hb').1; obtain ⟨hk1, hk2⟩ := hk'))
            all_goals
              have ho5 : Aside (OutS w (w'.setCell ⟨q, nn, none⟩ (.string (x ++ y))) (.slice (some ⟨q, 0, none⟩) n1 cap) (ss ++ [x ++ y])) := (HQQ.out w' hb').2 _
              generalize w'.setCell ⟨q, nn, none⟩ (.string (x ++ y)) = w5 at ho5 ⊢
              clear hk1 hk2 hb' cE' hq1 hq2 hcell4
              go_wp2
              go_roundg g'
              case measure => omega
              case rel =>
                refine ⟨k + 1, by omega, by omega, by go_num, ?_⟩
                rw [HT.out]
                refine ⟨by rw [HQ.out.1]; exact ho5.out, _, rfl, fun _ => ?_⟩
                rw [HQ.out.2]
                exact HZ.out
          · have HQ : Hid (Cl.step (o, cc) r = (o, cc)) := Lib.hid (Cl.step_full _ hr hcc hc3)
            have hz3 : ¬ z < 3 := by omega
            obtain ⟨q, cap, nn, n1, hnn, hn1, hv4, _⟩ := hout.lastN
            have hnl : nn ≤ 1000 := by omega
            subst hv4
            have HO : Hid (OutS w wr (.slice (some ⟨q, 0, none⟩) n1 cap) ((Cl.full (o, cc)).map Cl.str)) := Lib.hid (by rw [full_last' hcc]; exact hout)
            have HZ := Lib.hid hzm
            have hne0 : ((n1 : Int) == 0) = false := by simp; omega
            clear hr hzm hzm' hxs hout hnn hn1
            go_wp2_with fail
            refine cM.mono ?_
            rintro e w4 ⟨rfl, b1⟩
            have ho4 : Aside (OutS w w4 (.slice (some ⟨q, 0, none⟩) n1 cap) ((Cl.full (o, cc)).map Cl.str)) := HO.out.below b1
            clear hcell b1 cM
            go_wp2
            go_roundg g'
            case measure => omega
            case rel => exact ⟨k + 1, by omega, by omega, by go_num, by rw [HT.out, HQ.out]; exact ⟨ho4.out, z, rfl, HZ.out⟩⟩
    · have hz : ¬ (k : Int) < (n : Int) := by omega
      have htk : xs.take k = xs := List.take_of_length_le (by rw [HL.out]; omega)
      rw [htk] at hat
      obtain ⟨hout, z, rfl, _⟩ := hat.out
      obtain ⟨A', n', c', hv, hg'⟩ := hout.gives
      subst hv
      have HG := Lib.hid hg'
      have HX := Lib.hid hX
      clear hX htk hg' hout hat
      go_wp2
      go_ret
      exact ⟨A', n', c', rfl, HG.out⟩

end Go.Proofs.YtjoaaehfplcanaaDoor
