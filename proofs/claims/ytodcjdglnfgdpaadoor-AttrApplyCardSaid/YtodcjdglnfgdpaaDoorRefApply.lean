/-
  What the document's own at, color, one and Apply return.
-/
import Derived.Test.YtodcjdglnfgdpaaDoorRefParams
namespace Go.Proofs.YtodcjdglnfgdpaaDoor
open Go.RowKit

/-- A number of a list, -1 behind the end, 0 in the place of a negative one. -/
def atZ (zs : List Int) (i : Nat) : Int := if zs.length ≤ i then -1 else zs.getD i 0

set_option maxHeartbeats 400000 in
set_option maxRecDepth 100000 in
theorem at_any (A : Option Addr) (n c B i : Nat) (xs : List Int) (w : World) (hX : Nums w B A n xs) (_ : n ≤ 1000) (hi : i ≤ 2000) :
    Calls Tryd.prog 28 #[.slice A n c, .int .i64 (i : Int)] w fun e w' => e = .returned (.int .i64 (atZ (At.nn xs) i)) ∧ w = w' := by
  have hl := hX.1
  have hln : (At.nn xs).length = n := by unfold At.nn; rw [List.length_map, hl]
  obtain ⟨z, hz⟩ : ∃ z, atZ (At.nn xs) i = z := ⟨_, rfl⟩
  rw [hz]
  unfold atZ at hz
  rw [hln] at hz
  by_cases h1 : n ≤ i
  · have z1 : (n : Int) ≤ (i : Int) := by omega
    rw [if_pos h1] at hz
    subst hz
    clear hX
    go_enter Tryd.func28, Tryd.ntmps28
    go_wp2
    go_ret
    exact ⟨rfl, rfl⟩
  · have z1 : ¬ (n : Int) ≤ (i : Int) := by omega
    have z2 : (i : Int) < (n : Int) := by omega
    have z3 : (0 : Int) ≤ (i : Int) := by omega
    rw [if_neg h1] at hz
    obtain ⟨b, off, rfl, hb, hc⟩ := hX.2 i (by omega)
    have hv : (At.nn xs).getD i 0 = max (xs.getD i 0) 0 := by
      unfold At.nn
      rw [List.getD_eq_getElem?_getD, List.getElem?_map, List.getD_eq_getElem?_getD, List.getElem?_eq_getElem (by omega)]
      rfl
    rw [hv] at hz
    have HZ := Lib.hid hz
    clear hX hz hv
    generalize xs.getD i 0 = x at hc HZ
    by_cases hx : x < 0
    · go_enter Tryd.func28, Tryd.ntmps28
      go_wp2
      go_ret
      exact ⟨ret_int (by have := HZ.out; omega), rfl⟩
    · go_enter Tryd.func28, Tryd.ntmps28
      go_wp2
      go_ret
      exact ⟨ret_int (by have := HZ.out; omega), rfl⟩

theorem at_same (A : Option Addr) (n c B i : Nat) (xs : List Int) (w : World) (hX : Nums w B A n xs) (hn : n ≤ 1000) (hi : i ≤ 2000) (j : Int) (hj : j = (i : Int)) (v : Int) (hv : atZ (At.nn xs) i = v) :
    Calls Tryd.prog 28 #[.slice A n c, .int .i64 j] w fun e w' => e = .returned (.int .i64 v) ∧ w = w' := by
  subst hj hv
  exact at_any A n c B i xs w hX hn hi

/-- The color by the numbers that at returns. -/
theorem den_at (zs : List Int) (i : Nat) (hp : At.pos zs) :
    At.den (zs.drop i) = if atZ zs i = 5 ∧ 0 ≤ atZ zs (i + 1) ∧ atZ zs (i + 1) ≤ 255 then (atZ zs (i + 1), 2)
      else if atZ zs i = 2 ∧ (0 ≤ atZ zs (i + 1) ∧ atZ zs (i + 1) ≤ 255) ∧ (0 ≤ atZ zs (i + 2) ∧ atZ zs (i + 2) ≤ 255) ∧ 0 ≤ atZ zs (i + 3) ∧ atZ zs (i + 3) ≤ 255 then (16 + 36 * At.lv (atZ zs (i + 1)) + 6 * At.lv (atZ zs (i + 2)) + At.lv (atZ zs (i + 3)), 4)
      else (0, 0) := by
  have g : ∀ j, (zs.drop i).getD j 0 = zs.getD (i + j) 0 := fun j => by simp [List.getD_eq_getElem?_getD, List.getElem?_drop]
  have a : ∀ j, i + j < zs.length → atZ zs (i + j) = zs.getD (i + j) 0 := fun j h => by unfold atZ; rw [if_neg (by omega)]
  have a' : ∀ j, ¬ i + j < zs.length → atZ zs (i + j) = -1 := fun j h => by unfold atZ; rw [if_pos (by omega)]
  have p : ∀ j, 0 ≤ zs.getD (i + j) 0 := fun j => At.pos_getD hp _
  have g0 := g 0
  have g1 := g 1
  have g2 := g 2
  have g3 := g 3
  have p1 := p 1
  have p2 := p 2
  have p3 := p 3
  unfold At.den
  rw [List.length_drop, g0, g1, g2, g3]
  rw [Nat.add_zero] at *
  by_cases h1 : i + 1 < zs.length
  · have e0 := a 0 (by omega)
    have e1 := a 1 h1
    rw [Nat.add_zero] at e0
    rw [e0, e1]
    by_cases h3 : i + 3 < zs.length
    · have e2 := a 2 (by omega)
      have e3 := a 3 h3
      rw [e2, e3]
      repeat' split
      all_goals first | rfl | (exfalso; omega)
    · have e3 := a' 3 h3
      rw [e3]
      repeat' split
      all_goals first | rfl | (exfalso; omega)
  · have e1 := a' 1 h1
    rw [e1]
    repeat' split
    all_goals first | rfl | (exfalso; omega)

set_option maxHeartbeats 2000000 in
set_option maxRecDepth 100000 in
theorem color_any (A : Option Addr) (n c B i : Nat) (xs : List Int) (w : World) (hX : Nums w B A n xs) (hn : n ≤ 1000) (hi : i ≤ 1500) :
    Calls Tryd.prog 30 #[.slice A n c, .int .i64 (i : Int)] w fun e w' => e = .returned (.tuple #[.int .i64 (At.den ((At.nn xs).drop i)).1, .int .i64 (At.den ((At.nn xs).drop i)).2]) ∧ Below w.heap.size w w' := by
  have hd := den_at (At.nn xs) i (At.pos_nn xs)
  obtain ⟨p, hpq⟩ : ∃ p, At.den ((At.nn xs).drop i) = p := ⟨_, rfl⟩
  rw [hpq] at hd ⊢
  clear hpq
  have c0 := fun v hv j hj => at_same A n c B i xs w hX hn (by omega) j hj v hv
  have c1 := fun v hv j hj => at_same A n c B (i + 1) xs w hX hn (by omega) j hj v hv
  have c2 := fun v hv j hj => at_same A n c B (i + 2) xs w hX hn (by omega) j hj v hv
  have c3 := fun v hv j hj => at_same A n c B (i + 3) xs w hX hn (by omega) j hj v hv
  obtain ⟨x0, h0⟩ : ∃ x, atZ (At.nn xs) i = x := ⟨_, rfl⟩
  obtain ⟨x1, h1⟩ : ∃ x, atZ (At.nn xs) (i + 1) = x := ⟨_, rfl⟩
  obtain ⟨x2, h2⟩ : ∃ x, atZ (At.nn xs) (i + 2) = x := ⟨_, rfl⟩
  obtain ⟨x3, h3⟩ : ∃ x, atZ (At.nn xs) (i + 3) = x := ⟨_, rfl⟩
  have d0 : Calls Tryd.prog 28 #[.slice A n c, .int .i64 (i : Int)] w fun e w' => e = .returned (.int .i64 x0) ∧ w = w' := c0 x0 h0 _ rfl
  have d1 : Calls Tryd.prog 28 #[.slice A n c, .int .i64 ((i : Int) + 1)] w fun e w' => e = .returned (.int .i64 x1) ∧ w = w' := c1 x1 h1 _ (by omega)
  have d2 : Calls Tryd.prog 28 #[.slice A n c, .int .i64 ((i : Int) + 2)] w fun e w' => e = .returned (.int .i64 x2) ∧ w = w' := c2 x2 h2 _ (by omega)
  have d3 : Calls Tryd.prog 28 #[.slice A n c, .int .i64 ((i : Int) + 3)] w fun e w' => e = .returned (.int .i64 x3) ∧ w = w' := c3 x3 h3 _ (by omega)
  rw [h0, h1, h2, h3] at hd
  clear c0 c1 c2 c3 h0 h1 h2 h3 hX
  have HD := Lib.hid hd
  clear hd
  by_cases q0 : x0 = 5
  · have f0 : (x0 == 5) = true := by simp [q0]
    by_cases q1 : 0 ≤ x1 ∧ x1 ≤ 255
    · rw [if_pos ⟨q0, q1⟩] at HD
      obtain ⟨q1, q2⟩ := q1
      clear q0
      go_enter Tryd.func30, Tryd.ntmps30
      go_wp2_with fail
      refine d1.mono ?_
      rintro e w' ⟨rfl, rfl⟩
      go_wp2_with fail
      refine d0.mono ?_
      rintro e w' ⟨rfl, rfl⟩
      go_wp2
      go_ret2
      exact ⟨ret_pair (by rw [HD.out]) (by rw [HD.out]; rfl), Below.refl _ w⟩
    · rw [if_neg (fun h => q1 h.2), if_neg (fun h => by omega)] at HD
      have f2 : (x0 != 2) = true := by simp; omega
      by_cases r1 : 0 ≤ x1
      · have r2 : ¬ x1 ≤ 255 := fun h => q1 ⟨r1, h⟩
        clear q0 q1
        go_enter Tryd.func30, Tryd.ntmps30
        go_wp2_with fail
        refine d1.mono ?_
        rintro e w' ⟨rfl, rfl⟩
        go_wp2_with fail
        refine d0.mono ?_
        rintro e w' ⟨rfl, rfl⟩
        go_wp2_with fail
        refine d2.mono ?_
        rintro e w' ⟨rfl, rfl⟩
        go_wp2_with fail
        refine d3.mono ?_
        rintro e w' ⟨rfl, rfl⟩
        go_wp2_with fail
        refine d0.mono ?_
        rintro e w' ⟨rfl, rfl⟩
        go_wp2
        go_ret2
        exact ⟨ret_pair (by rw [HD.out]) (by rw [HD.out]; rfl), Below.refl _ w⟩
      · clear q0 q1
        go_enter Tryd.func30, Tryd.ntmps30
        go_wp2_with fail
        refine d1.mono ?_
        rintro e w' ⟨rfl, rfl⟩
        go_wp2_with fail
        refine d0.mono ?_
        rintro e w' ⟨rfl, rfl⟩
        go_wp2_with fail
        refine d2.mono ?_
        rintro e w' ⟨rfl, rfl⟩
        go_wp2_with fail
        refine d3.mono ?_
        rintro e w' ⟨rfl, rfl⟩
        go_wp2_with fail
        refine d0.mono ?_
        rintro e w' ⟨rfl, rfl⟩
        go_wp2
        go_ret2
        exact ⟨ret_pair (by rw [HD.out]) (by rw [HD.out]; rfl), Below.refl _ w⟩
  · have f0 : (x0 == 5) = false := by simp [q0]
    by_cases q2 : x0 = 2
    · have f2 : (x0 != 2) = false := by simp [q2]
      by_cases s1 : x1 < 0
      · rw [if_neg (fun h => q0 h.1), if_neg (fun h => by omega)] at HD
        clear q0 q2
        go_enter Tryd.func30, Tryd.ntmps30
        go_wp2_with fail
        refine d1.mono ?_
        rintro e w' ⟨rfl, rfl⟩
        go_wp2_with fail
        refine d0.mono ?_
        rintro e w' ⟨rfl, rfl⟩
        go_wp2_with fail
        refine d2.mono ?_
        rintro e w' ⟨rfl, rfl⟩
        go_wp2_with fail
        refine d3.mono ?_
        rintro e w' ⟨rfl, rfl⟩
        go_wp2_with fail
        refine d0.mono ?_
        rintro e w' ⟨rfl, rfl⟩
        go_wp2
        go_ret2
        exact ⟨ret_pair (by rw [HD.out]) (by rw [HD.out]; rfl), Below.refl _ w⟩
      · by_cases s2 : 255 < x1
        · rw [if_neg (fun h => q0 h.1), if_neg (fun h => by omega)] at HD
          clear q0 q2
          go_enter Tryd.func30, Tryd.ntmps30
          go_wp2_with fail
          refine d1.mono ?_
          rintro e w' ⟨rfl, rfl⟩
          go_wp2_with fail
          refine d0.mono ?_
          rintro e w' ⟨rfl, rfl⟩
          go_wp2_with fail
          refine d2.mono ?_
          rintro e w' ⟨rfl, rfl⟩
          go_wp2_with fail
          refine d3.mono ?_
          rintro e w' ⟨rfl, rfl⟩
          go_wp2_with fail
          refine d0.mono ?_
          rintro e w' ⟨rfl, rfl⟩
          go_wp2
          go_ret2
          exact ⟨ret_pair (by rw [HD.out]) (by rw [HD.out]; rfl), Below.refl _ w⟩
        · by_cases s3 : x2 < 0
          · rw [if_neg (fun h => q0 h.1), if_neg (fun h => by omega)] at HD
            clear q0 q2
            go_enter Tryd.func30, Tryd.ntmps30
            go_wp2_with fail
            refine d1.mono ?_
            rintro e w' ⟨rfl, rfl⟩
            go_wp2_with fail
            refine d0.mono ?_
            rintro e w' ⟨rfl, rfl⟩
            go_wp2_with fail
            refine d2.mono ?_
            rintro e w' ⟨rfl, rfl⟩
            go_wp2_with fail
            refine d3.mono ?_
            rintro e w' ⟨rfl, rfl⟩
            go_wp2_with fail
            refine d0.mono ?_
            rintro e w' ⟨rfl, rfl⟩
            go_wp2
            go_ret2
            exact ⟨ret_pair (by rw [HD.out]) (by rw [HD.out]; rfl), Below.refl _ w⟩
          · by_cases s4 : 255 < x2
            · rw [if_neg (fun h => q0 h.1), if_neg (fun h => by omega)] at HD
              clear q0 q2
              go_enter Tryd.func30, Tryd.ntmps30
              go_wp2_with fail
              refine d1.mono ?_
              rintro e w' ⟨rfl, rfl⟩
              go_wp2_with fail
              refine d0.mono ?_
              rintro e w' ⟨rfl, rfl⟩
              go_wp2_with fail
              refine d2.mono ?_
              rintro e w' ⟨rfl, rfl⟩
              go_wp2_with fail
              refine d3.mono ?_
              rintro e w' ⟨rfl, rfl⟩
              go_wp2_with fail
              refine d0.mono ?_
              rintro e w' ⟨rfl, rfl⟩
              go_wp2
              go_ret2
              exact ⟨ret_pair (by rw [HD.out]) (by rw [HD.out]; rfl), Below.refl _ w⟩
            · by_cases s5 : x3 < 0
              · rw [if_neg (fun h => q0 h.1), if_neg (fun h => by omega)] at HD
                clear q0 q2
                go_enter Tryd.func30, Tryd.ntmps30
                go_wp2_with fail
                refine d1.mono ?_
                rintro e w' ⟨rfl, rfl⟩
                go_wp2_with fail
                refine d0.mono ?_
                rintro e w' ⟨rfl, rfl⟩
                go_wp2_with fail
                refine d2.mono ?_
                rintro e w' ⟨rfl, rfl⟩
                go_wp2_with fail
                refine d3.mono ?_
                rintro e w' ⟨rfl, rfl⟩
                go_wp2_with fail
                refine d0.mono ?_
                rintro e w' ⟨rfl, rfl⟩
                go_wp2
                go_ret2
                exact ⟨ret_pair (by rw [HD.out]) (by rw [HD.out]; rfl), Below.refl _ w⟩
              · by_cases s6 : 255 < x3
                · rw [if_neg (fun h => q0 h.1), if_neg (fun h => by omega)] at HD
                  clear q0 q2
                  go_enter Tryd.func30, Tryd.ntmps30
                  go_wp2_with fail
                  refine d1.mono ?_
                  rintro e w' ⟨rfl, rfl⟩
                  go_wp2_with fail
                  refine d0.mono ?_
                  rintro e w' ⟨rfl, rfl⟩
                  go_wp2_with fail
                  refine d2.mono ?_
                  rintro e w' ⟨rfl, rfl⟩
                  go_wp2_with fail
                  refine d3.mono ?_
                  rintro e w' ⟨rfl, rfl⟩
                  go_wp2_with fail
                  refine d0.mono ?_
                  rintro e w' ⟨rfl, rfl⟩
                  go_wp2
                  go_ret2
                  exact ⟨ret_pair (by rw [HD.out]) (by rw [HD.out]; rfl), Below.refl _ w⟩
                · have o1 : x1 ≤ 255 := by omega
                  have o2 : x2 ≤ 255 := by omega
                  have o3 : x3 ≤ 255 := by omega
                  have n1 : 0 ≤ x1 := by omega
                  have n2 : 0 ≤ x2 := by omega
                  have n3 : 0 ≤ x3 := by omega
                  rw [if_neg (fun h => q0 h.1), if_pos ⟨q2, ⟨n1, o1⟩, ⟨n2, o2⟩, n3, o3⟩] at HD
                  have e1 : (x1 * 5).tdiv 255 = At.lv x1 := Int.tdiv_eq_ediv_of_nonneg (by omega)
                  have l1 := At.lv_range n1 o1
                  generalize At.lv x1 = y1 at e1 l1 HD
                  have e2 : (x2 * 5).tdiv 255 = At.lv x2 := Int.tdiv_eq_ediv_of_nonneg (by omega)
                  have l2 := At.lv_range n2 o2
                  generalize At.lv x2 = y2 at e2 l2 HD
                  have e3 : (x3 * 5).tdiv 255 = At.lv x3 := Int.tdiv_eq_ediv_of_nonneg (by omega)
                  have l3 := At.lv_range n3 o3
                  generalize At.lv x3 = y3 at e3 l3 HD
                  clear q0 q2
                  go_enter Tryd.func30, Tryd.ntmps30
                  go_wp2_with fail
                  refine d1.mono ?_
                  rintro e w' ⟨rfl, rfl⟩
                  go_wp2_with fail
                  refine d0.mono ?_
                  rintro e w' ⟨rfl, rfl⟩
                  go_wp2_with fail
                  refine d2.mono ?_
                  rintro e w' ⟨rfl, rfl⟩
                  go_wp2_with fail
                  refine d3.mono ?_
                  rintro e w' ⟨rfl, rfl⟩
                  go_wp2_with fail
                  refine d0.mono ?_
                  rintro e w' ⟨rfl, rfl⟩
                  go_wp2
                  go_ret2
                  exact ⟨ret_pair (by rw [HD.out]) (by rw [HD.out]; rfl), Below.refl _ w⟩
    · have f2 : (x0 != 2) = true := by simp [q2]
      rw [if_neg (fun h => q0 h.1), if_neg (fun h => q2 h.1)] at HD
      clear q0 q2
      go_enter Tryd.func30, Tryd.ntmps30
      go_wp2_with fail
      refine d1.mono ?_
      rintro e w' ⟨rfl, rfl⟩
      go_wp2_with fail
      refine d0.mono ?_
      rintro e w' ⟨rfl, rfl⟩
      go_wp2_with fail
      refine d2.mono ?_
      rintro e w' ⟨rfl, rfl⟩
      go_wp2_with fail
      refine d3.mono ?_
      rintro e w' ⟨rfl, rfl⟩
      go_wp2_with fail
      refine d0.mono ?_
      rintro e w' ⟨rfl, rfl⟩
      go_wp2
      go_ret2
      exact ⟨ret_pair (by rw [HD.out]) (by rw [HD.out]; rfl), Below.refl _ w⟩

end Go.Proofs.YtodcjdglnfgdpaaDoor
