/-
  What the document's own Apply returns, for every proper rendition and every slice of at most 1000 numbers.
-/
import Derived.Test.YtodcjdglnfgdpaaDoorRefOne
namespace Go.Proofs.YtodcjdglnfgdpaaDoor
open Go.RowKit

theorem res_ref (tmps : Array Value) (w : World) (k : Nat) (a : At.R) (hp : tmps.getD 4 undef = .pointer (some ⟨k, 0, none⟩)) (h : Rec w k a) :
    (results Tryd.f14 tmps).run Tryd.prog w = .ok (.agg #[.int .i64 a.f, .int .i64 a.b, .int .i64 a.g]) w :=
  results_cell_row Tryd.results14 tmps w k 23 _ (0, 0) _ hp h Tryd.underlying23 rfl (by kernel_rfl)

set_option maxHeartbeats 4000000 in
set_option maxRecDepth 100000 in
theorem refApply_any (A : Option Addr) (n c B : Nat) (xs : List Int) (a : At.R) (w : World) (hB : B ≤ w.heap.size) (hX : Nums w B A n xs) (hn : n ≤ 1000) (hr : ∀ z ∈ xs, z ≤ 9223372036854775807) (ha : At.ok a) :
    Calls Tryd.prog 14 #[av a, .slice A n c] w fun e w' => e = .returned (av (At.apply a xs)) ∧ Below w.heap.size w w' := by
  have hl := hX.1
  have hmax : Hid (∀ z ∈ At.nn xs, z ≤ 9223372036854775807) := Lib.hid (by
    intro z hz
    unfold At.nn at hz
    obtain ⟨x, hx, rfl⟩ := List.mem_map.1 hz
    have := hr x hx
    omega)
  have hlz : Hid ((At.nn xs).length = n) := Lib.hid (by unfold At.nn; rw [List.length_map, hl])
  obtain ⟨R, hR⟩ : ∃ R, At.apply a xs = R := ⟨_, rfl⟩
  rw [hR]
  unfold At.apply at hR
  rw [hl] at hR
  have HA := Lib.hid ha
  have HO := Lib.hid (On.start w a)
  have HX := Lib.hid hX
  have HP := Lib.hid (At.pos_nn xs)
  by_cases h0 : n = 0
  · rw [if_pos h0] at hR
    subst h0
    have HR := Lib.hid hR
    obtain ⟨f, b, g⟩ := a
    clear hX hr ha hR
    simp only at HO
    go_enter Tryd.func14, Tryd.ntmps14
    go_wp2_with fail
    refine (refDefault_any _).mono ?_
    rintro e w1 ⟨rfl, b1⟩
    have H1 := HO.out.below b1
    have x0 := H1.2.1.c0
    have x1 := H1.2.1.c1
    have x2 := H1.2.1.c2
    have v0 := H1.2.1.z 0
    have v1 := H1.2.1.z 1
    have v2 := H1.2.1.z 2
    have HH := Lib.hid H1
    clear H1 b1 HO
    go_wp2
    refine bodyPost_ret (res_ref _ _ _ _ rfl (((HH.out.2.1.s0 (-1)).s1 (-1)).s2 0)) rfl ⟨?_, ?_⟩
    · rw [← HR.out]
      rfl
    · exact ((HH.out.2.2.setCell (by simp) _).setCell (by simp) _).setCell (by simp) _
  · rw [if_neg h0] at hR
    have HR := Lib.hid hR
    have hzn : ((n : Int) == 0) = false := by simp; omega
    obtain ⟨f, b, g⟩ := a
    clear hX hr ha hR
    simp only at HO
    go_enter Tryd.func14, Tryd.ntmps14
    go_wp2
    generalize (w.alloc (.cells #[.int .i64 f, .int .i64 b, .int .i64 g] 23)).alloc (.cells #[.int .i64 0, .int .i64 0, .int .i64 0] 23) = W0 at HO ⊢
    go_loopg [5, 6, 7, 8] n (fun gg s5 _ _ _ wr => ∃ (k : Nat) (a : At.R), k ≤ n ∧ n - k ≤ gg ∧ s5 = .int .i64 k ∧ Aside (On w wr a ∧ At.ok a ∧ At.run a ((At.nn xs).drop k) = R))
    case atStart => exact ⟨0, ⟨f, b, g⟩, by omega, by omega, rfl, ⟨HO.out, HA.out, by rw [List.drop_zero]; exact HR.out⟩⟩
    case round =>
      clear HO HR HA
      obtain ⟨k, ⟨f, b, g⟩, hk, hgg, rfl, AS⟩ := hrel
      by_cases hkn : k < n
      · have hz : (k : Int) < (n : Int) := by omega
        have hz0 : (0 : Int) ≤ (k : Int) := by omega
        have hkl : k < (At.nn xs).length := by have := hlz.out; omega
        have HN : Hid (∀ W, Below wr.heap.size wr W → Nums W B A n xs) := Lib.hid (fun W hb => (HX.out.below AS.out.1.2.2 hB).below hb (Nat.le_trans hB AS.out.1.2.2.size))
        obtain ⟨y, hy⟩ : ∃ y, (At.nn xs).getD k 0 = y := ⟨_, rfl⟩
        have ymem : y ∈ At.nn xs := by
          rw [← hy, List.getD_eq_getElem?_getD, List.getElem?_eq_getElem hkl]
          exact List.getElem_mem hkl
        have y0 : 0 ≤ y := HP.out y ymem
        have y1 : y ≤ 9223372036854775807 := hmax.out y ymem
        have hdr : (At.nn xs).drop k = y :: (At.nn xs).drop (k + 1) := by
          rw [List.drop_eq_getElem_cons hkl, ← hy, List.getD_eq_getElem?_getD, List.getElem?_eq_getElem hkl]
          rfl
        have cAt := at_same A n c B k xs wr (HN.out wr (Below.refl _ _)) hn (by omega) (k : Int) rfl y (by unfold atZ; rw [if_neg (by omega)]; exact hy)
        have HR2 : Hid (At.run ⟨f, b, g⟩ (y :: (At.nn xs).drop (k + 1)) = R) := Lib.hid (by rw [← hdr]; exact AS.out.2.2)
        have hok := Lib.hid AS.out.2.1
        have OW := Lib.hid AS.out.1
        have d0 := OW.out.1.c0
        have d1 := OW.out.1.c1
        have d2 := OW.out.1.c2
        clear hy ymem hdr AS hkl
        by_cases e1 : y = 38 ∨ y = 48
        · have cd := color_any A n c B (k + 1) xs wr (HN.out wr (Below.refl _ _)) hn (by omega)
          have hput := Lib.hid (fun h => @At.run_put ⟨f, b, g⟩ y ((At.nn xs).drop (k + 1)) e1 h)
          have hstop := Lib.hid (fun h => @At.run_stop ⟨f, b, g⟩ y ((At.nn xs).drop (k + 1)) e1 h)
          have hdok := Lib.hid (At.den_ok (l := (At.nn xs).drop (k + 1)) (fun z hz => HP.out z (List.mem_of_mem_drop hz)))
          have hdl := At.den_len ((At.nn xs).drop (k + 1))
          rw [List.length_drop, hlz.out] at hdl
          obtain ⟨cc, hcc⟩ : ∃ cc, (At.den ((At.nn xs).drop (k + 1))).1 = cc := ⟨_, rfl⟩
          obtain ⟨k2, hkk⟩ : ∃ k2, (At.den ((At.nn xs).drop (k + 1))).2 = k2 := ⟨_, rfl⟩
          rw [hcc, hkk] at cd hput
          rw [hkk] at hstop hdl
          rw [hcc] at hdok
          rw [List.drop_drop] at hput
          clear hcc hkk
          have ek1 : ((k + 1 : Nat) : Int) = (k : Int) + 1 := by omega
          rw [ek1] at cd
          have CD := Lib.hid cd
          clear cd ek1
          by_cases ek : k2 = 0
          · have g2 : ((k2 : Int) == 0) = true := by simp [ek]
            have HS := Lib.hid (hstop.out ek)
            clear hput hstop ek
            rcases e1 with e1 | e1
            all_goals
              subst e1
              go_wp2_with fail
              refine cAt.mono ?_
              rintro e w' ⟨rfl, rfl⟩
              go_wp2_with fail
              refine CD.out.mono ?_
              rintro e w2 ⟨rfl, b2⟩
              have L2 := OW.out.below b2
              have z0 := L2.1.c0
              have z1 := L2.1.c1
              have z2 := L2.1.c2
              have q0 := L2.2.1.c0
              have q1 := L2.2.1.c1
              have q2 := L2.2.1.c2
              have v0 := L2.2.1.z 0
              have v1 := L2.2.1.z 1
              have v2 := L2.2.1.z 2
              have HL2 := Lib.hid L2
              clear L2 b2 OW d0 d1 d2
              go_wp2
              refine bodyPost_ret (res_ref _ _ _ _ rfl (((HL2.out.2.1.s0 f).s1 b).s2 g)) rfl ⟨?_, ?_⟩
              · rw [← HR2.out, HS.out]
              · exact ((HL2.out.2.2.setCell (by simp) _).setCell (by simp) _).setCell (by simp) _
          · have g2 : ((k2 : Int) == 0) = false := by simp [ek]
            have HS := Lib.hid (hput.out ek)
            clear hput hstop
            by_cases e38 : y = 38
            · subst e38
              clear e1
              go_wp2_with fail
              refine cAt.mono ?_
              rintro e w' ⟨rfl, rfl⟩
              go_wp2_with fail
              refine CD.out.mono ?_
              rintro e w2 ⟨rfl, b2⟩
              have L2 := OW.out.below b2
              have z0 := L2.1.c0
              have v0 := L2.1.z 0
              have HL2 := Lib.hid L2
              clear L2 b2 OW d0 d1 d2
              go_wp2
              go_roundg (n - (k + k2 + 1))
              case measure => omega
              case rel =>
                refine ⟨k + 1 + k2, ⟨cc, b, g⟩, by omega, by omega, by go_num, ⟨HL2.out.s0 cc, ⟨hdok.out, hok.out.2⟩, ?_⟩⟩
                have q := HR2.out
                rw [HS.out] at q
                exact q
            · obtain rfl : y = 48 := by omega
              clear e1
              go_wp2_with fail
              refine cAt.mono ?_
              rintro e w' ⟨rfl, rfl⟩
              go_wp2_with fail
              refine CD.out.mono ?_
              rintro e w2 ⟨rfl, b2⟩
              have L2 := OW.out.below b2
              have z1 := L2.1.c1
              have v1 := L2.1.z 1
              have HL2 := Lib.hid L2
              clear L2 b2 OW d0 d1 d2
              go_wp2
              go_roundg (n - (k + k2 + 1))
              case measure => omega
              case rel =>
                refine ⟨k + 1 + k2, ⟨f, cc, g⟩, by omega, by omega, by go_num, ⟨HL2.out.s1 cc, ⟨hok.out.1, hdok.out, hok.out.2.2⟩, ?_⟩⟩
                have q := HR2.out
                rw [HS.out] at q
                exact q
        · have f1 : (y != 38) = true := by simp; omega
          have f2 : (y != 48) = true := by simp; omega
          have cO := Lib.hid (fun W => one_any ⟨f, b, g⟩ y W hok.out y0 y1)
          have HS : Hid (At.run (At.step ⟨f, b, g⟩ y) ((At.nn xs).drop (k + 1)) = R) := Lib.hid (by
            have q := HR2.out
            rwa [At.run_step e1] at q)
          have hok2 := Lib.hid (At.step_ok hok.out y)
          generalize At.step ⟨f, b, g⟩ y = a2 at cO HS hok2
          obtain ⟨f', b', g'⟩ := a2
          clear e1 HR2
          go_wp2_with fail
          refine cAt.mono ?_
          rintro e w' ⟨rfl, rfl⟩
          go_wp2_with fail
          refine (cO.out _).mono ?_
          rintro e w2 ⟨rfl, b2⟩
          have L2 := OW.out.below b2
          have x0 := L2.1.c0
          have x1 := L2.1.c1
          have x2 := L2.1.c2
          have v0 := L2.1.z 0
          have v1 := L2.1.z 1
          have v2 := L2.1.z 2
          have HL2 := Lib.hid L2
          clear L2 b2 OW d0 d1 d2
          go_wp2
          go_roundg (n - (k + 1))
          case measure => omega
          case rel => exact ⟨k + 1, ⟨f', b', g'⟩, by omega, by omega, by go_num, ⟨((HL2.out.s0 f').s1 b').s2 g', hok2.out, HS.out⟩⟩
      · have hz : ¬ (k : Int) < (n : Int) := by omega
        have hdn : (At.nn xs).drop k = [] := List.drop_eq_nil_of_le (by have := hlz.out; omega)
        have HR2 : Hid ((⟨f, b, g⟩ : At.R) = R) := Lib.hid (by have q := AS.out.2.2; rwa [hdn, At.run_nil] at q)
        have OW := Lib.hid AS.out.1
        have z0 := OW.out.1.c0
        have z1 := OW.out.1.c1
        have z2 := OW.out.1.c2
        have q0 := OW.out.2.1.c0
        have q1 := OW.out.2.1.c1
        have q2 := OW.out.2.1.c2
        have v0 := OW.out.2.1.z 0
        have v1 := OW.out.2.1.z 1
        have v2 := OW.out.2.1.z 2
        clear hdn AS
        go_wp2
        refine bodyPost_ret (res_ref _ _ _ _ rfl (((OW.out.2.1.s0 f).s1 b).s2 g)) rfl ⟨?_, ?_⟩
        · rw [← HR2.out]
        · exact ((OW.out.2.2.setCell (by simp) _).setCell (by simp) _).setCell (by simp) _

end Go.Proofs.YtodcjdglnfgdpaaDoor
