/-
  The document's own New and copied of layer 8.
-/
import Derived.Test.YtokeaoapcjlmkaaDoorGrRef
import Derived.Test.YtokeaoapcjlmkaaDoorGrStruct
namespace Go.Proofs.YtokeaoapcjlmkaaDoor
open Go.RowKit Go.Shelf Cr Gd

theorem GR.put3 {w0 w : World} {v : Value} {L : List (List C)} (h : GR w0 w v L) {k : Nat} {W H : Int} {A : Option Addr} {n c : Nat} (hk : Kg w k W H A n c) (hge : w0.heap.size ≤ k) (W' H' : Int) (S : Value) : GR w0 (g3 w k W' H' S) v L :=
  h.cross hk (grid_no _ _ _) hk.noStr (by rw [g3_size]; exact Nat.le_refl _) (fun j _ hj => g3_other w k W' H' S j hj) (below_g3 h.bel hge _ _ _)
/-- What a call leaves that returns a grid of its own. -/
def OutG (w : World) (R : Res) (e : Ending) (w' : World) : Prop :=
  ∃ A n c, e = .returned (.tuple #[.agg #[.int .i64 R.W, .int .i64 R.H, .slice A n c], .int .i64 (R.E : Int)]) ∧ GR w w' (.slice A n c) R.L
theorem OutG.out2 {w w' : World} {R : Res} {e : Ending} (h : OutG w R e w') : Out2 w R e w' := by
  obtain ⟨A, n, c, h1, h2⟩ := h
  exact ⟨A, n, c, h1, h2.gv, h2.bel⟩
theorem GR.none {w w' : World} (hb : Below w.heap.size w w') : GR w w' (.slice Option.none 0 0) [] := ⟨[], World.ownsRow_nil _ _ _ _, hb, fun j h l hj => by simp at hj⟩

set_option maxHeartbeats 4000000 in
set_option maxRecDepth 100000 in
theorem rnew_any (W H : Int) (w : World) : Calls Tryd.prog 14 #[.int .i64 W, .int .i64 H] w fun e w' => OutG w (newR W H) e w' := by
  have CI := Lib.hid (fun U => sized_any W H U)
  have B0 := Lib.hid ((Below.refl w.heap.size w).alloc (Nat.le_refl _) (.cells #[.int .i64 0, .int .i64 0, .slice none 0 0] 24))
  by_cases h0 : sizeOk W H
  · rw [decide_eq_true h0] at CI
    have e : newR W H = ⟨0, W, H, List.replicate H.toNat (blanks W.toNat (-1)), []⟩ := by unfold newR; rw [if_pos h0]
    rw [e]
    obtain ⟨a1, a2, a3, a4⟩ := h0
    obtain ⟨v, rfl⟩ : ∃ v : Nat, W = (v : Int) := ⟨W.toNat, by omega⟩
    obtain ⟨n, rfl⟩ : ∃ n : Nat, H = (n : Int) := ⟨H.toNat, by omega⟩
    rw [Int.toNat_natCast, Int.toNat_natCast]
    obtain ⟨V, hV⟩ : ∃ V, (w.alloc (.cells #[.int .i64 0, .int .i64 0, .slice none 0 0] 24)).alloc (.cells #[.int .i64 (v : Int), .int .i64 (n : Int), .slice none 0 0] 24) = V := ⟨_, rfl⟩
    have hall : Kg V w.heap.size 0 0 none 0 0 ∧ Kg V (w.heap.size + 1) (v : Int) (n : Int) none 0 0 ∧ GR w V (.slice none 0 0) [] := by
      subst hV
      have h1 := Kg.new w 0 0 none 0 0
      have e1 : (w.alloc (.cells #[.int .i64 0, .int .i64 0, .slice none 0 0] 24)).heap.size = w.heap.size + 1 := by simp
      have g1 := (GR.start w).alloc (.cells #[.int .i64 0, .int .i64 0, .slice none 0 0] 24)
      generalize w.alloc (.cells #[.int .i64 0, .int .i64 0, .slice none 0 0] 24) = w1 at h1 e1 g1 ⊢
      have h2 := Kg.new w1 (v : Int) (n : Int) none 0 0
      have b2 := (Below.refl w1.heap.size w1).alloc (Nat.le_refl _) (.cells #[.int .i64 (v : Int), .int .i64 (n : Int), .slice none 0 0] 24)
      rw [e1] at h2
      exact ⟨h1.below b2, h2, g1.below b2⟩
    have HALL := Lib.hid hall
    have CB := Lib.hid (fun U => refBlank_any (v : Int) 0 (-1) 0 U)
    rw [if_pos ⟨a1, a2⟩, Int.toNat_natCast] at CB
    have hnz : (n : Int) ≤ 60 := by omega
    have hv132 : v ≤ 1000 := by omega
    have HLB : Hid ((blanks v (-1)).length = v) := Lib.hid (blanks_length v (-1))
    generalize blanks v (-1) = bl at CB HLB ⊢
    clear e hall
    subst hV
    go_enter Tryd.func14, Tryd.ntmps14
    go_wp2_with fail
    refine (CI.out _).mono ?_
    rintro e w0 ⟨rfl, rfl⟩
    clear CI
    go_wp2
    go_loopg [7] (n + 1) (fun gk v7 wr => ∃ k : Nat, gk + k = n + 1 ∧ k ≤ n ∧ v7 = .int .i64 (k : Int) ∧ Aside (∃ A c, Kg wr w.heap.size 0 0 none 0 0 ∧ Kg wr (w.heap.size + 1) (v : Int) (n : Int) A k c ∧ GR w wr (.slice A k c) (List.replicate k bl)))
    case atStart => exact ⟨0, by omega, Nat.zero_le _, rfl, none, 0, HALL.out⟩
    case round =>
      obtain ⟨k, hg, hkn, rfl, hA⟩ := hrel
      obtain ⟨A, c, k0, k1, hG⟩ := hA.out
      by_cases hlt : k < n
      · obtain ⟨g', rfl⟩ : ∃ g', gk = g' + 1 := ⟨gk - 1, by omega⟩
        have hz : (k : Int) < (n : Int) := by omega
        have hz0 : (0 : Int) ≤ (k : Int) := by omega
        have K0 := Lib.hid k0
        have K1 := Lib.hid k1
        have HG := Lib.hid hG
        have c2 := k1.c2
        have HSUC : Hid (List.replicate k bl ++ [bl] = List.replicate (k + 1) bl) := Lib.hid List.replicate_succ'.symm
        have HLL : Hid ((List.replicate k bl).length = k) := Lib.hid List.length_replicate
        generalize List.replicate k bl = LL at HG HSUC HLL
        have HL1 : Hid (LL.length + ([bl] : List (List C)).length ≤ 100000) := Lib.hid (by rw [HLL.out]; simp; omega)
        clear hA k0 k1 hG
        go_wp2
        go_region_law (first
          | (go_simp; refine (CB.out wr.drew).mono ?_; rintro e' w2 ⟨A2, n2, c2', rfl, hGv, hF⟩; have bd := (Below.refl wr.heap.size wr).drew.trans hGv.2.2; have bA := (Below.refl w2.heap.size w2).alloc (Nat.le_refl _) (.cells #[.slice A2 n2 c2'] 39); have bX := bd.trans (bA.mono bd.size); have d2 := (K1.out.below bd).c2; have e2 := (K1.out.below bX).c2; have HY := Lib.hid (RdQ.one (GivesIn hGv.1 hGv.2.1 (by rw [← hGv.1.1, HLB.out]; exact hv132)) (Off.fresh (m := n2) (c := c2') HG.out hF)); have HX := Lib.hid (HG.out.below bX); have M0 := Lib.hid (K0.out.below bX); have M1 := Lib.hid (K1.out.below bX); clear bd bA bX hGv hF)
          | (refine step_joinR (by rfl) (.tmp 22) (.tmp 26) (by rfl) w _ _ LL [bl] (some ⟨w2.heap.size, 0, none⟩) 1 1 (by rfl) (by rfl) HX.out HY.out (fun e => by cases e) HL1.out ?_; intro A4 c4 w4 hO4; have O4 := Lib.hid hO4.out.1; have N0 := Lib.hid (M0.out.grown HX.out hO4.out.2); have N1 := Lib.hid (M1.out.grown HX.out hO4.out.2); have f2 := N1.out.c2; have fz := N1.out.z; clear hO4))
        all_goals
          clear c2 d2 e2
          go_wp2
          go_roundg g'
          case measure => omega
          case rel =>
            refine ⟨k + 1, by omega, by omega, by go_num, A4, c4, N0.out.other (by omega) _, ?_, ?_⟩
            · have h := N1.out.field A4 (LL.length + 1) c4
              rw [HLL.out] at h ⊢
              exact h
            · have h := O4.out.field N1.out (by omega) (.slice A4 (LL.length + 1) c4)
              rw [HSUC.out] at h
              have e : LL.length + ([bl] : List (List C)).length = LL.length + 1 := rfl
              rw [e, HLL.out] at h
              rw [HLL.out]
              exact h
      · have hz : ¬ (k : Int) < (n : Int) := by omega
        have hk : k = n := by omega
        subst hk
        have c0 := k1.c0
        have c1 := k1.c1
        have c2 := k1.c2
        have d0 := k0.c0
        have d1 := k0.c1
        have d2 := k0.c2
        have dz := k0.z
        have K0 := Lib.hid k0
        have GG := Lib.hid hG
        clear hA k0 k1 hG
        go_wp2
        refine bodyPost_ret (res2 rfl _ _ _ _ _ _ rfl (K0.out.put (v : Int) (k : Int) A k c)) rfl ?_
        exact ⟨A, k, c, rfl, GG.out.put3 K0.out (Nat.le_refl _) _ _ _⟩
  · rw [decide_eq_false h0] at CI
    have e : newR W H = bad 2 := by unfold newR; rw [if_neg h0]
    rw [e]
    clear e
    go_enter Tryd.func14, Tryd.ntmps14
    go_wp2_with fail
    refine (CI.out _).mono ?_
    rintro e w1 ⟨rfl, rfl⟩
    go_wp2
    refine bodyPost_ret (res2 rfl _ _ _ _ _ _ rfl (Kg.new w 0 0 none 0 0)) rfl ?_
    exact ⟨none, 0, 0, rfl, GR.none B0.out⟩

set_option maxHeartbeats 4000000 in
set_option maxRecDepth 100000 in
theorem rcopied_any (A : Option Addr) (n c : Nat) (L : List (List C)) (hn : n ≤ 1000) (w : World) (hr : RdR w A n L) (hp : ∀ l ∈ L, 1 ≤ l.length ∧ l.length ≤ 1000) :
    Calls Tryd.prog 42 #[.slice A n c] w fun e w' => ∃ g cap, e = .returned (.slice (some ⟨g, 0, none⟩) n cap) ∧ GR w w' (.slice (some ⟨g, 0, none⟩) n cap) L := by
  have hl : L.length = n := hr.1
  have HR := Lib.hid hr
  have HP := Lib.hid hp
  have HL := Lib.hid hl
  have E0 := Lib.hid (show GR w (w.alloc (.cells #[] 39)) (.slice (some ⟨w.heap.size, 0, none⟩) 0 0) [] from ⟨[], ⟨rfl, .inr ⟨w.heap.size, 0, #[], rfl, Nat.le_refl _, heap_alloc_new w _, Nat.le_refl _, by unfold maxLen; omega, rfl, rfl⟩⟩, (Below.refl _ _).alloc (Nat.le_refl _) _, fun j h l hj => by simp at hj⟩)
  have hnz : (n : Int) ≤ 1000 := by omega
  clear hr hp hl
  go_enter Tryd.func42, Tryd.ntmps42
  go_wp2
  go_loopg [3, 4] (n + 1) (fun gk v3 v4 wr => ∃ k : Nat, gk + k = n + 1 ∧ k ≤ n ∧ v4 = .int .i64 (k : Int) ∧ ∃ g cap, v3 = .slice (some ⟨g, 0, none⟩) k cap ∧ Aside (GR w wr (.slice (some ⟨g, 0, none⟩) k cap) (L.take k)))
  case atStart => exact ⟨0, by omega, Nat.zero_le _, rfl, w.heap.size, 0, rfl, E0.out⟩
  case round =>
    obtain ⟨k, hg, hkn, rfl, gg, cc, rfl, hA⟩ := hrel
    by_cases hlt : k < n
    · obtain ⟨g', rfl⟩ : ∃ g', gk = g' + 1 := ⟨gk - 1, by omega⟩
      have hz : (k : Int) < (n : Int) := by omega
      have hz0 : (0 : Int) ≤ (k : Int) := by omega
      obtain ⟨l, hx⟩ : ∃ l, L[k]? = some l := ⟨L[k]'(by rw [HL.out]; exact hlt), List.getElem?_eq_getElem _⟩
      have HA := Lib.hid hA.out
      obtain ⟨b, off, A', m, c', rfl, hblt, hc, hrd, _⟩ := (HR.out.below HA.out.bel).at k l hx
      have hlp := HP.out l (List.mem_of_getElem? hx)
      have hm : l.length = m := hrd.1
      obtain ⟨ab, ao, rfl⟩ := hrd.addr (by omega)
      have bE := (Below.refl wr.heap.size wr).alloc (Nat.le_refl _) (.cells #[] 66)
      have HO := Lib.hid (Own.empty wr)
      have HRD := Lib.hid (hrd.below bE)
      have hce := (bE.cell (p := ⟨b, off + k, none⟩) hblt).trans hc
      have hlen : ([] : List C).length + l.length ≤ 100000 := by simp; omega
      have hne : Value.slice (some ⟨wr.heap.size, 0, none⟩) 0 0 ≠ .slice none 0 0 := by intro e; cases e
      have htk : L.take k ++ [l] = L.take (k + 1) := by rw [List.take_add_one, hx]; rfl
      have HTK := Lib.hid htk
      have HLL : Hid ((L.take k).length = k) := Lib.hid (by rw [List.length_take, HL.out]; omega)
      generalize L.take k = LL at HA HTK HLL
      have HL1 : Hid (LL.length + ([l] : List (List C)).length ≤ 100000) := Lib.hid (by rw [HLL.out]; simp; omega)
      have hm1000 : m ≤ 1000 := by omega
      subst hm
      clear hA hx htk hrd bE
      go_wp2_with (first
        | (at_builtin; refine wpList_joinO rfl (.tmp 13) (.tmp 17) rfl wr _ _ [] l ab ao l.length c' rfl rfl HO.out HRD.out hlen hne ?_; intro g5 c5 w5 hO5; rw [List.nil_append, List.length_nil, Nat.zero_add] at hO5; have HIN := Lib.hid (GivesIn (c := c5) hO5.out.rd.1 ⟨hO5.out.rd.2, hO5.out.mine.cap⟩ hm1000); have HOF := Lib.hid (Off.fresh (m := l.length) (c := c5) HA.out hO5.out.mine.fr); have HY := Lib.hid (RdQ.one HIN.out HOF.out); have HX := Lib.hid ((HA.out.below hO5.out.2).alloc (.cells #[.slice (some ⟨g5, 0, none⟩) l.length c5] 39)); clear hO5)
        | (at_builtin; refine wpList_joinR rfl (.tmp 12) (.tmp 19) rfl w _ _ LL [l] (some ⟨w5.heap.size, 0, none⟩) 1 1 rfl rfl HX.out HY.out (fun e => by cases e) HL1.out ?_; intro A6 c6 w6 hO6; have HO6 := Lib.hid hO6.out.1; clear hO6))
      have hs : ∃ g6, A6 = some ⟨g6, 0, none⟩ := by
        rcases HO6.out.slice with ⟨e, e0⟩ | ⟨g6, cap, e, _⟩
        · have := congrArg List.length e0
          simp at this
        · injection e with e
          exact ⟨g6, e⟩
      obtain ⟨g6, rfl⟩ := hs
      go_roundg g'
      case measure => omega
      case rel =>
        have h := HO6.out
        rw [HTK.out] at h
        have e : LL.length + ([l] : List (List C)).length = k + 1 := by rw [HLL.out]; rfl
        rw [e] at h
        refine ⟨k + 1, by omega, by omega, by go_num, g6, c6, ?_, h⟩
        rw [HLL.out]
    · have hz : ¬ (k : Int) < (n : Int) := by omega
      have hq : k = n := by omega
      subst hq
      go_wp2
      go_ret
      refine ⟨_, _, rfl, ?_⟩
      have := hA.out
      rw [List.take_of_length_le (by rw [HL.out]; exact Nat.le_refl _)] at this
      exact this

end Go.Proofs.YtokeaoapcjlmkaaDoor
