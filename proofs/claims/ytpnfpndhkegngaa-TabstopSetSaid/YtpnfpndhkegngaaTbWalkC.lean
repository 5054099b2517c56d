/-
  The statement of layer 9 on Set: the walk.
-/
import Derived.Test.YtpnfpndhkegngaaTbWalkB
namespace Go.Proofs.Ytpnfpndhkegngaa
open Go.RowKit Tb

set_option maxHeartbeats 2000000 in
set_option maxRecDepth 100000 in
theorem set_walk (A : Option Addr) (n c : Nat) (l : List Bool) (col : Int) (q : Bool) (w : World) (hr : Nums w w.heap.size A n l) (hnil : A = none → n = 0 ∧ c = 0) (hn : n ≤ 9223372036854775807) (h0 : 0 ≤ col) (h255 : col ≤ 255) :
    Calls Try.prog 8 #[.slice A n c, .int .u8 col, .bool q] w fun e w' => e = .returned (.bool true) ∧ Below w.heap.size w w' := by
  obtain ⟨k, rfl⟩ : ∃ k : Nat, col = (k : Int) := ⟨col.toNat, by omega⟩
  have CF := Lib.hid (fun W => fine_any A n c W hn)
  have HR := Lib.hid hr
  have HL := Lib.hid hr.1
  have HN := Lib.hid hnil
  clear hr hnil
  by_cases hq : n ≤ 140
  · rw [decide_eq_true hq] at CF
    have hzn : (n : Int) ≤ 140 := by omega
    by_cases hk : k < n
    · have hz2 : ¬ ((n : Int) ≤ (k : Int)) := by omega
      have hz0 : (0 : Int) ≤ (k : Int) := by omega
      have hz5 : (k : Int) < (n : Int) := by omega
      have hz6 : (0 : Int) ≤ (n : Int) - 1 := by omega
      have hne : ((n : Int) != (n : Int)) = false := by simp
      have hqq : (q != q) = false := by simp
      go_enter Try.func8, Try.ntmps8
      go_wp2_with fail
      refine (CF.out w).mono ?_
      rintro e w1 ⟨rfl, rfl⟩
      clear CF
      go_wp2_with fail
      refine (set_any A n c _ l k q (by omega) w HR.out (Nat.le_refl _) HN.out).mono ?_
      rintro e w1 ⟨g, rfl, hO⟩
      have hc := hO.nums.2.2 k hk
      have hp := put_on l k q (by rw [HL.out]; exact hk)
      unfold on at hp
      obtain ⟨b, off, e, _, hcell⟩ := hc
      injection e with e
      injection e with e1 e2
      subst e1 e2
      rw [Nat.zero_add, hp] at hcell
      have O1 := Lib.hid hO
      clear hO hp
      go_wp2_with fail
      refine (set_any _ n n _ (put l k q) k q (by omega) w1 O1.out.nums.2 (Nat.le_refl _) (fun e => by cases e)).mono ?_
      rintro e w2 ⟨g2, rfl, hO⟩
      rw [put_twice l k q (by rw [HL.out]; exact hk)] at hO
      have O2 := Lib.hid hO
      clear hO hcell
      go_wp2_with fail
      refine (same_yes _ _ _ _ _ _ _ _ (put l k q) w2 (by rw [put_length, HL.out]; omega) O2.out.nums.2 (O1.out.nums.2.below O2.out.2 (Nat.le_refl _))).mono ?_
      rintro e w3 ⟨rfl, hS⟩
      have HB3 := Lib.hid (below_step (below_step O1.out.2 O2.out.2) hS)
      have R3 := Lib.hid ((O1.out.nums.2).below (below_step O2.out.2 hS) (Nat.le_refl _))
      have Z1 := Lib.hid O1.out.2.size
      have Z3 := Lib.hid (below_step O2.out.2 hS).size
      clear hS O1 O2
      obtain ⟨b, off, hA, hcells⟩ := HR.out.some (by omega)
      have hcl := hcells k hk
      rw [← HB3.out.cell (p := ⟨b, off + k, none⟩) (by obtain ⟨b', off', e, hlt, _⟩ := HR.out.2 k hk; rw [hA] at e; injection e with e; injection e with e1 e2; rw [e1]; exact hlt)] at hcl
      subst hA
      obtain ⟨x, hx⟩ : ∃ x, on l k = x := ⟨_, rfl⟩
      rw [hx] at hcl
      have HX := Lib.hid hx
      clear hx hcells
      go_wp2_with fail
      refine (set_any _ n n _ (put l k q) k x (by omega) w3 R3.out Z3.out (fun e => by cases e)).mono ?_
      rintro e w4 ⟨g4, rfl, hO⟩
      have hu := put_undo l k q (by rw [HL.out]; exact hk)
      rw [HX.out] at hu
      rw [hu] at hO
      have O4 := Lib.hid hO
      have HB4 := Lib.hid (below_step HB3.out hO.2)
      clear hO hu hcl R3 Z1 Z3 HB3
      go_wp2_with fail
      refine (same_yes _ _ _ _ _ _ _ _ l w4 (by rw [HL.out]; omega) O4.out.nums.2 (HR.out.below HB4.out (Nat.le_refl _))).mono ?_
      rintro e w5 ⟨rfl, hS⟩
      have HB5 := Lib.hid (below_step HB4.out hS)
      clear hS HB4 O4
      go_wp2
      go_loopg [9, 10, 65] (n + 1) (fun gk v9 v10 v65 wr => ∃ (j : Nat) (A' : Option Addr) (c' : Nat), gk + j = n + 1 ∧ j ≤ n ∧ v65 = .int .i64 (j : Int) ∧ v9 = .slice A' n c' ∧ Aside (Nums wr wr.heap.size A' n (clr l j) ∧ (A' = none → n = 0 ∧ c' = 0) ∧ Below w.heap.size w wr))
      case atStart => exact ⟨0, _, _, by omega, by omega, rfl, rfl, by rw [clr_zero]; exact (HR.out.below HB5.out (Nat.le_refl _)).more HB5.out.size, (fun e => by cases e), HB5.out⟩
      case round =>
        obtain ⟨j, A', c', hg, hjm, rfl, rfl, hI⟩ := hrel
        by_cases hlt : j < n
        · obtain ⟨g', rfl⟩ : ∃ g', gk = g' + 1 := ⟨gk - 1, by omega⟩
          have hzj : (j : Int) < (n : Int) := by omega
          have hzj0 : (0 : Int) ≤ (j : Int) := by omega
          go_wp2_with fail
          refine (set_any A' n c' _ (clr l j) j false (by omega) wr hI.out.1 (Nat.le_refl _) hI.out.2.1).mono ?_
          rintro e w6 ⟨g6, rfl, hO⟩
          rw [clr_succ l j (by rw [HL.out]; exact hlt)] at hO
          have HI := Lib.hid (And.intro hO.nums.2 (below_step hI.out.2.2 hO.2))
          clear hO hI
          go_wp2
          go_roundg g'
          case measure => omega
          case rel => exact ⟨j + 1, _, _, by omega, by omega, by go_num, rfl, HI.out.1, (fun e => by cases e), HI.out.2⟩
        · have hz : ¬ (j : Int) < (n : Int) := by omega
          have hjn : j = n := by omega
          subst hjn
          have hI2 := hI.out
          rw [← HL.out] at hI2
          obtain ⟨hI3, hI4, hI5⟩ := hI2
          rw [HL.out] at hI3 hI4
          have E : l.length = j := HL.out
          go_wp2_with fail
          refine (next_any A' j c' _ (clr l l.length) 0 (by omega) wr (by rw [E]; exact hI.out.1)).mono ?_
          rintro e w6 ⟨s, rfl, hS, rfl⟩
          have hs := clr_next l 0 hS
          have hs2 : (s : Int) = (j : Int) - 1 := by omega
          rw [hs2]
          clear hS hs hs2
          go_wp2_with fail
          refine (prev_any A' j c' _ (clr l l.length) ((j : Int) - 1) (by omega) wr (by rw [E]; exact hI.out.1)).mono ?_
          rintro e w6 ⟨s, rfl, hS, rfl⟩
          obtain rfl := clr_prev l _ hS
          clear hS
          go_wp2_with fail
          refine (awake_any wr).mono ?_
          rintro e w6 ⟨rfl, hS⟩
          have HB6 := Lib.hid (below_step hI5 hS)
          clear hS
          go_wp2
          go_ret
          exact ⟨rfl, HB6.out⟩
    · have hz2 : (n : Int) ≤ (k : Int) := by omega
      go_enter Try.func8, Try.ntmps8
      go_wp2_with fail
      refine (CF.out w).mono ?_
      rintro e w1 ⟨rfl, rfl⟩
      go_wp2_with fail
      refine (awake_any w).mono ?_
      rintro e w5 ⟨rfl, hS⟩
      go_wp2
      go_ret
      exact ⟨rfl, hS⟩
  · rw [decide_eq_false hq] at CF
    go_enter Try.func8, Try.ntmps8
    go_wp2_with fail
    refine (CF.out w).mono ?_
    rintro e w1 ⟨rfl, rfl⟩
    go_wp2_with fail
    refine (awake_any w).mono ?_
    rintro e w5 ⟨rfl, hS⟩
    go_wp2
    go_ret
    exact ⟨rfl, hS⟩

end Go.Proofs.Ytpnfpndhkegngaa
