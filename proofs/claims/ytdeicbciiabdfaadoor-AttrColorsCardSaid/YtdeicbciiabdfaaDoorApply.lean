/-
  What Apply of attr returns, for every rendition and every slice of at most 1000 numbers.
-/
import Derived.Test.YtdeicbciiabdfaaDoorRec
namespace Go.Proofs.YtdeicbciiabdfaaDoor
open Go.RowKit

theorem res_cell (tmps : Array Value) (w : World) (k : Nat) (a : At.R) (hp : tmps.getD 4 undef = .pointer (some ⟨k, 0, none⟩)) (h : Rec w k a) :
    (results Tryd.f7 tmps).run Tryd.prog w = .ok (.agg #[.int .i64 a.f, .int .i64 a.b, .int .i64 a.g]) w :=
  results_cell_row Tryd.results7 tmps w k 23 _ (0, 0) _ hp h Tryd.underlying23 rfl (by kernel_rfl)

set_option maxHeartbeats 2000000 in
set_option maxRecDepth 100000 in
theorem apply_empty (A : Option Addr) (c : Nat) (a : At.R) (w : World) :
    Calls Tryd.prog 7 #[.agg #[.int .i64 a.f, .int .i64 a.b, .int .i64 a.g], .slice A 0 c] w fun e w' => e = .returned (.agg #[.int .i64 (-1), .int .i64 (-1), .int .i64 0]) ∧ Below w.heap.size w w' := by
  obtain ⟨f, b, g⟩ := a
  go_enter Tryd.func7, Tryd.ntmps7
  go_wp2_with fail
  have hr0 := Rec.laid (w.alloc (.cells #[.int .i64 f, .int .i64 b, .int .i64 g] 23)) ⟨0, 0, 0⟩
  have hb0 := ((Below.refl w.heap.size w).alloc (Nat.le_refl _) (.cells #[.int .i64 f, .int .i64 b, .int .i64 g] 23)).alloc (by simp) (.cells #[.int .i64 0, .int .i64 0, .int .i64 0] 23)
  simp only [World.size_alloc] at hr0
  refine (default_any _).mono ?_
  rintro e w1 ⟨rfl, b1⟩
  have hr := hr0.below b1
  have hb := hb0.trans (b1.mono hb0.size)
  clear hr0 hb0 b1
  have z0 := hr.c0
  have z1 := hr.c1
  have z2 := hr.c2
  have y0 := hr.z 0
  have y1 := hr.z 1
  have y2 := hr.z 2
  have HR := Lib.hid (((hr.s0 (-1)).s1 (-1)).s2 0)
  have HB := Lib.hid hb
  clear hr hb
  go_wp2
  refine bodyPost_ret (res_cell _ _ _ _ rfl HR.out) rfl ⟨rfl, ?_⟩
  exact ((HB.out.setCell (by simp) _).setCell (by simp) _).setCell (by simp) _

set_option maxHeartbeats 4000000 in
set_option maxRecDepth 100000 in
theorem apply_some (A : Option Addr) (n c B : Nat) (xs : List Int) (a : At.R) (w : World) (hB : B ≤ w.heap.size) (hX : Nums w B A n xs) (hnil : A = none → n = 0 ∧ c = 0) (h0 : 0 < n) (hn : n ≤ 1000) (hr : ∀ z ∈ xs, z ≤ 9223372036854775807) (hT : Tb w) :
    Calls Tryd.prog 7 #[.agg #[.int .i64 a.f, .int .i64 a.b, .int .i64 a.g], .slice A n c] w fun e w' => e = .returned (.agg #[.int .i64 (At.run a (At.nn xs)).f, .int .i64 (At.run a (At.nn xs)).b, .int .i64 (At.run a (At.nn xs)).g]) ∧ Below w.heap.size w w' := by
  obtain ⟨f, b, g⟩ := a
  have hw := hT.lt
  have hr0 := Rec.laid (w.alloc (.cells #[.int .i64 f, .int .i64 b, .int .i64 g] 23)) ⟨0, 0, 0⟩
  have hr1 := (Rec.laid w ⟨f, b, g⟩).alloc (.cells #[.int .i64 0, .int .i64 0, .int .i64 0] 23)
  have hb0 := ((Below.refl w.heap.size w).alloc (Nat.le_refl _) (.cells #[.int .i64 f, .int .i64 b, .int .i64 g] 23)).alloc (by simp) (.cells #[.int .i64 0, .int .i64 0, .int .i64 0] 23)
  simp only [World.size_alloc] at hr0
  obtain ⟨W0, hW0⟩ : ∃ W0, (w.alloc (.cells #[.int .i64 f, .int .i64 b, .int .i64 g] 23)).alloc (.cells #[.int .i64 0, .int .i64 0, .int .i64 0] 23) = W0 := ⟨_, rfl⟩
  have hs0 : W0.heap.size = w.heap.size + 2 := by rw [← hW0]; simp
  simp only at hr0 hr1
  rw [hW0] at hr0 hr1 hb0
  have hn0 := without_any A n c B xs W0 (by omega) (hX.below hb0 hB) hnil hn
  have ht0 := hT.below hb0 (Nat.le_refl _)
  have HN := Lib.hid hn0
  have H0 := Lib.hid (And.intro hr1 (And.intro hr0 (And.intro hb0 ht0)))
  have HS0 := Lib.hid hs0
  have hzn : ((n : Int) == 0) = false := by simp; omega
  clear hr0 hr1 hb0 hn0 ht0 hX hnil hs0
  obtain ⟨R, hR⟩ : ∃ R, At.run ⟨f, b, g⟩ (At.nn xs) = R := ⟨_, rfl⟩
  rw [hR]
  have HR := Lib.hid hR
  have hpos := Lib.hid (At.pos_nn xs)
  have hmax : Hid (∀ z ∈ At.nn xs, z ≤ 9223372036854775807) := Lib.hid (by
    intro z hz
    unfold At.nn at hz
    obtain ⟨x, hx, rfl⟩ := List.mem_map.1 hz
    have := hr x hx
    omega)
  clear hR hr
  go_enter Tryd.func7, Tryd.ntmps7
  go_wp2_with fail
  clear hW0
  refine HN.out.mono ?_
  rintro e w1 ⟨A1, c1, rfl, hout⟩
  have HL : Hid (Lp w w1 ⟨f, b, g⟩ A1 n c1 (At.nn xs)) := Lib.hid ⟨H0.out.1.below hout.2, H0.out.2.1.below hout.2, by have := hout.row; rwa [HS0.out] at this, H0.out.2.2.1.trans (hout.2.mono (by rw [HS0.out]; omega)), H0.out.2.2.2.below hout.2 (Nat.le_refl _)⟩
  clear hout HN H0 HS0
  generalize At.nn xs = zs at HL hpos hmax HR
  go_wp2
  go_loopg [5, 6, 7, 8] n (fun gg s5 _ _ _ wr => ∃ (a : At.R) (A' : Option Addr) (m c' : Nat) (ys : List Int), m ≤ gg ∧ m ≤ 1000 ∧ s5 = .slice A' m c' ∧ Aside (Lp w wr a A' m c' ys ∧ At.pos ys ∧ (∀ z ∈ ys, z ≤ 9223372036854775807) ∧ At.run a ys = R))
  case atStart => exact ⟨⟨f, b, g⟩, A1, n, c1, zs, Nat.le_refl _, hn, rfl, ⟨HL.out, hpos.out, hmax.out, HR.out⟩⟩
  case round =>
    clear HL HR hpos hmax
    obtain ⟨⟨f, b, g⟩, A', m, c', ys, hg, hm, rfl, AS⟩ := hrel
    cases ys with
    | nil =>
      obtain rfl : m = 0 := AS.out.1.2.2.1.1.symm
      have z0 := AS.out.1.1.c0
      have z1 := AS.out.1.1.c1
      have z2 := AS.out.1.1.c2
      have q0 := AS.out.1.2.1.c0
      have q1 := AS.out.1.2.1.c1
      have q2 := AS.out.1.2.1.c2
      have y0 := AS.out.1.2.1.z 0
      have y1 := AS.out.1.2.1.z 1
      have y2 := AS.out.1.2.1.z 2
      go_wp2
      refine bodyPost_ret (res_cell _ _ _ _ rfl (((AS.out.1.2.1.s0 f).s1 b).s2 g)) rfl ⟨?_, ?_⟩
      · have hq := AS.out.2.2.2
        rw [At.run_nil] at hq
        rw [← hq]
      · exact ((AS.out.1.2.2.2.1.setCell (by simp) _).setCell (by simp) _).setCell (by simp) _
    | cons y yt =>
      have L := AS.out.1
      have hml : yt.length + 1 = m := by have := L.2.2.1.1; simpa using this
      obtain ⟨bb, off, rfl, hc⟩ := L.2.2.1.head
      have y0 : 0 ≤ y := AS.out.2.1 y (List.mem_cons_self ..)
      have y1 : y ≤ 9223372036854775807 := AS.out.2.2.1 y (List.mem_cons_self ..)
      have hpt := Lib.hid (show At.pos yt from fun z hz => AS.out.2.1 z (List.mem_cons_of_mem _ hz))
      have hbt := Lib.hid (show ∀ z ∈ yt, z ≤ 9223372036854775807 from fun z hz => AS.out.2.2.1 z (List.mem_cons_of_mem _ hz))
      have HR := Lib.hid AS.out.2.2.2
      have zm : (0 : Int) < (m : Int) := by omega
      have hsl : ∀ W, (Instr.slice 28 (.slice (some ⟨bb, off, none⟩) m c') (some (.int .i64 1)) none none).run Tryd.prog W = .ok (.slice (cutA (some ⟨bb, off, none⟩) c' 1) (m - 1) (c' - 1)) W := fun W => slice_from (some ⟨bb, off, none⟩) m c' 1 (by omega) W
      have L1 : Lp w wr ⟨f, b, g⟩ (cutA (some ⟨bb, off, none⟩) c' 1) (m - 1) (c' - 1) yt := L.cut (k := 1) (by omega)
      obtain ⟨m2, hm2⟩ : ∃ m2, m - 1 = m2 := ⟨_, rfl⟩
      have hmm : m = m2 + 1 := by omega
      have HM := Lib.hid hmm
      have hm3 : m2 ≤ 1000 := by omega
      generalize cutA (some ⟨bb, off, none⟩) c' 1 = A2 at hsl L1
      generalize c' - 1 = c2 at hsl L1
      rw [hm2] at hsl L1
      clear hm2 hmm L hml AS
      by_cases e0 : y = 0
      · subst e0
        have HL := Lib.hid L1
        clear L1
        go_wp2_with fail
        refine (default_any wr).mono ?_
        rintro e w2 ⟨rfl, b2⟩
        have L2 := HL.out.below b2
        have z0 := L2.1.c0
        have z1 := L2.1.c1
        have z2 := L2.1.c2
        have v0 := L2.1.z 0
        have v1 := L2.1.z 1
        have v2 := L2.1.z 2
        have HL2 := Lib.hid L2
        clear L2 b2 HL
        go_wp2
        go_roundg m2
        case measure => have := HM.out; omega
        case rel =>
          refine ⟨At.dflt, A2, m2, c2, yt, Nat.le_refl _, hm3, rfl, ⟨((HL2.out.s0 hw (-1)).s1 hw (-1)).s2 hw 0, hpt.out, hbt.out, ?_⟩⟩
          have q := HR.out
          rwa [At.run_step (by omega), At.step, if_pos rfl] at q
      · have f0 : (y == 0) = false := by simp [e0]
        by_cases e1 : y = 38 ∨ y = 48
        · have cd := den_any A2 m2 c2 wr.heap.size yt wr L1.2.2.1.nums L1.2.2.1.2.1 hpt.out hm3
          have hk2 : (At.den yt).2 ≤ m2 := by have := At.den_len yt; have := L1.2.2.1.1; omega
          have hput := Lib.hid (fun h => @At.run_put ⟨f, b, g⟩ y yt e1 h)
          have hstop := Lib.hid (fun h => @At.run_stop ⟨f, b, g⟩ y yt e1 h)
          have hsl2 := fun W => slice_from A2 m2 c2 (At.den yt).2 hk2 W
          obtain ⟨cc, hcc⟩ : ∃ cc, (At.den yt).1 = cc := ⟨_, rfl⟩
          obtain ⟨k2, hkk⟩ : ∃ k2, (At.den yt).2 = k2 := ⟨_, rfl⟩
          rw [hcc, hkk] at cd hput
          rw [hkk] at hk2 hstop hsl2
          clear hcc hkk
          have HL := Lib.hid L1
          have CD := Lib.hid cd
          clear L1 cd
          by_cases ek : k2 = 0
          · have g2 : ((k2 : Int) == 0) = true := by simp [ek]
            have HS := Lib.hid (hstop.out ek)
            clear hput hstop hsl2 ek
            rcases e1 with e1 | e1
            all_goals
              subst e1
              go_wp2_with fail
              refine CD.out.mono ?_
              rintro e w2 ⟨rfl, b2⟩
              have L2 := HL.out.below b2
              have z0 := L2.1.c0
              have z1 := L2.1.c1
              have z2 := L2.1.c2
              have q0 := L2.2.1.c0
              have q1 := L2.2.1.c1
              have q2 := L2.2.1.c2
              have v0 := L2.2.1.z 0
              have v1 := L2.2.1.z 1
              have v2 := L2.2.1.z 2
              have HL2 := Lib.hid L2
              clear L2 b2 HL
              go_wp2
              refine bodyPost_ret (res_cell _ _ _ _ rfl (((HL2.out.2.1.s0 f).s1 b).s2 g)) rfl ⟨?_, ?_⟩
              · rw [← HR.out, HS.out]
              · exact ((HL2.out.2.2.2.1.setCell (by simp) _).setCell (by simp) _).setCell (by simp) _
          · have g2 : ((k2 : Int) == 0) = false := by simp [ek]
            have HS := Lib.hid (hput.out ek)
            clear hput hstop
            by_cases e38 : y = 38
            · subst e38
              clear e1
              go_wp2_with fail
              refine CD.out.mono ?_
              rintro e w2 ⟨rfl, b2⟩
              have L2 := HL.out.below b2
              have z0 := L2.1.c0
              have v0 := L2.1.z 0
              have HL2 := Lib.hid L2
              clear L2 b2 HL
              go_wp2
              go_roundg (m2 - k2)
              case measure => have := HM.out; omega
              case rel =>
                refine ⟨⟨cc, b, g⟩, cutA A2 c2 k2, m2 - k2, c2 - k2, yt.drop k2, Nat.le_refl _, by omega, rfl, ⟨(HL2.out.s0 hw cc).cut hk2, fun z hz => hpt.out z (List.mem_of_mem_drop hz), fun z hz => hbt.out z (List.mem_of_mem_drop hz), ?_⟩⟩
                have q := HR.out
                rw [HS.out] at q
                exact q
            · obtain rfl : y = 48 := by omega
              clear e1
              go_wp2_with fail
              refine CD.out.mono ?_
              rintro e w2 ⟨rfl, b2⟩
              have L2 := HL.out.below b2
              have z1 := L2.1.c1
              have v1 := L2.1.z 1
              have HL2 := Lib.hid L2
              clear L2 b2 HL
              go_wp2
              go_roundg (m2 - k2)
              case measure => have := HM.out; omega
              case rel =>
                refine ⟨⟨f, cc, g⟩, cutA A2 c2 k2, m2 - k2, c2 - k2, yt.drop k2, Nat.le_refl _, by omega, rfl, ⟨(HL2.out.s1 hw cc).cut hk2, fun z hz => hpt.out z (List.mem_of_mem_drop hz), fun z hz => hbt.out z (List.mem_of_mem_drop hz), ?_⟩⟩
                have q := HR.out
                rw [HS.out] at q
                exact q
        · have f1 : (y == 38) = false := by simp; omega
          have f2 : (y == 48) = false := by simp; omega
          have HL := Lib.hid L1
          have HS : Hid (At.run ⟨At.col f y, At.col b (y - 10), At.fl g y⟩ yt = R) := Lib.hid (by
            have q := HR.out
            rwa [At.run_step e1, At.step, if_neg e0] at q)
          have cF := fun W h => flagsAfter_any g y W h
          have cC := fun W => colorAfter_any f y W (by omega) y1
          have cD := fun W => colorAfter_any b (y - 10) W (by omega) (by omega)
          generalize At.fl g y = g' at cF HS
          generalize At.col f y = f' at cC HS
          generalize At.col b (y - 10) = b' at cD HS
          have z2 := L1.1.c2
          clear L1 e1 HR
          go_wp2_with fail
          refine (cF wr HL.out.2.2.2.2).mono ?_
          rintro e w2 ⟨rfl, b2⟩
          have L2 := HL.out.below b2
          have x0 := L2.1.c0
          have x1 := L2.1.c1
          have x2 := L2.1.c2
          have v0 := L2.1.z 0
          have v1 := L2.1.z 1
          have v2 := L2.1.z 2
          have HL2 := Lib.hid L2
          clear L2 b2 HL z2 hc
          go_wp2_with fail
          refine (cC _).mono ?_
          rintro e w3 ⟨rfl, rfl⟩
          go_wp2_with fail
          refine (cD _).mono ?_
          rintro e w4 ⟨rfl, rfl⟩
          go_wp2
          go_roundg m2
          case measure => have := HM.out; omega
          case rel => exact ⟨⟨f', b', g'⟩, A2, m2, c2, yt, Nat.le_refl _, hm3, rfl, ⟨((HL2.out.s2 hw g').s0 hw f').s1 hw b', hpt.out, hbt.out, HS.out⟩⟩

end Go.Proofs.YtdeicbciiabdfaaDoor
