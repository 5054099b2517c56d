/-
  What New, Set, Resize and awake return.
-/
import Derived.Test.YtpnfpndhkegngaaTbMake
namespace Go.Proofs.Ytpnfpndhkegngaa
open Go.RowKit Tb

set_option maxHeartbeats 1000000 in
set_option maxRecDepth 100000 in
theorem new_any (width : Int) (w : World) : Calls Try.prog 17 #[.int .i64 width] w fun e w' => ∃ g, e = .returned (.slice (some ⟨g, 0, none⟩) (lim width) (lim width)) ∧ Out w w' (.slice (some ⟨g, 0, none⟩) (lim width) (lim width)) (deflt (lim width)) := by
  have hif := lim_if width
  have hle := lim_le width
  generalize lim width = n at hif hle ⊢
  obtain ⟨w1, hmk, hO⟩ := Out.makeB w n hle
  have HO := Lib.hid hO
  have hn0 : (0 : Int) ≤ (n : Int) := by omega
  have hnz : (n : Int) ≤ 1000 := by omega
  clear hO
  go_enter Try.func17, Try.ntmps17
  go_wp2
  all_goals
    clear hif h
    go_loopg [4, 11] (n + 1) (fun gk _ v11 wr => ∃ k : Nat, gk + k = n + 1 ∧ k ≤ n ∧ v11 = .int .i64 (k : Int) ∧ Aside (Out w wr (.slice (some ⟨w.heap.size, 0, none⟩) n n) (deflt k ++ List.replicate (n - k) false)))
    case atStart => exact ⟨0, by omega, Nat.zero_le _, rfl, by show Out _ _ _ _; simpa [deflt] using HO.out⟩
    case round =>
      obtain ⟨k, hg, hkn, rfl, hA⟩ := hrel
      by_cases hlt : k < n
      · obtain ⟨g', rfl⟩ : ∃ g', gk = g' + 1 := ⟨gk - 1, by omega⟩
        have hz : (k : Int) < (n : Int) := by omega
        have hz0 : (0 : Int) ≤ (k : Int) := by omega
        have hset := hA.out.set k (k % 8 == 0)
        rw [set_nextB n k hlt] at hset
        obtain ⟨hf, x, hx⟩ := hA.out.free k hlt
        have hr8 := rem8 k
        obtain ⟨y, hy⟩ : ∃ y, k % 8 = y := ⟨_, rfl⟩
        rw [hy] at hr8 hset
        have HW := Lib.hid hset
        clear hset hA hy
        by_cases hy0 : y = 0
        · subst hy0
          go_wp2
          go_roundg g'
          case measure => omega
          case rel => exact ⟨k + 1, by omega, by omega, by go_num, HW.out⟩
        · have hyz : (((y : Int)) == 0) = false := by simpa using hy0
          have hyn : ((y == 0) : Bool) = false := by simpa using hy0
          rw [hyn] at HW
          go_wp2
          go_roundg g'
          case measure => omega
          case rel => exact ⟨k + 1, by omega, by omega, by go_num, HW.out⟩
      · have hz : ¬ (k : Int) < (n : Int) := by omega
        have hq : k = n := by omega
        subst hq
        go_wp2
        go_ret
        refine ⟨_, rfl, ?_⟩
        have := hA.out
        rw [Nat.sub_self, List.replicate_zero, List.append_nil] at this
        exact this

set_option maxHeartbeats 1000000 in
set_option maxRecDepth 100000 in
theorem set_any (A : Option Addr) (n c B : Nat) (l : List Bool) (col : Int) (b : Bool) (hn : n ≤ 1000) (w : World) (hr : Nums w B A n l) (hB : B ≤ w.heap.size) (hnil : A = none → n = 0 ∧ c = 0) :
    Calls Try.prog 19 #[.slice A n c, .int .i64 col, .bool b] w fun e w' => ∃ g, e = .returned (.slice (some ⟨g, 0, none⟩) n n) ∧ Out w w' (.slice (some ⟨g, 0, none⟩) n n) (put l col b) := by
  have hL := hr.1
  obtain ⟨w1, hmk, hO⟩ := Out.makeB w n hn
  obtain ⟨z, w2, hcp, hO2⟩ := run_copyB 3 w w1 _ n n _ l A n c B hO (hr.below hO.2 hB) hnil
  have hC : l.take (Nat.min l.length n) ++ (List.replicate n false).drop (Nat.min l.length n) = l := by
    have e : Nat.min l.length n = n := by rw [hL]; exact Nat.min_self n
    rw [e, List.take_of_length_le (by omega), List.drop_of_length_le (by simp)]
    simp
  rw [hC] at hO2
  have HO2 := Lib.hid hO2
  have hn0 : (0 : Int) ≤ (n : Int) := by omega
  have hnz : (n : Int) ≤ 1000 := by omega
  have HL := Lib.hid hL
  clear hO hr hnil hL hC
  by_cases h0 : 0 ≤ col
  · by_cases h1 : col < (n : Int)
    · obtain ⟨k, rfl⟩ : ∃ k : Nat, col = (k : Int) := ⟨col.toNat, by omega⟩
      have hk : k < n := by omega
      obtain ⟨hf, x, hx⟩ := hO2.free k hk
      clear hO2
      go_enter Try.func19, Try.ntmps19
      go_wp2
      go_ret
      refine ⟨_, rfl, ?_⟩
      rw [put_of l k b (by rw [HL.out]; exact hk)]
      exact HO2.out.set k b
    · clear hO2
      go_enter Try.func19, Try.ntmps19
      go_wp2
      go_ret
      refine ⟨_, rfl, ?_⟩
      have e : put l col b = l := by unfold put; rw [if_neg (fun e => by rw [HL.out] at e; omega)]
      rw [e]
      exact HO2.out
  · clear hO2
    go_enter Try.func19, Try.ntmps19
    go_wp2
    go_ret
    refine ⟨_, rfl, ?_⟩
    have e : put l col b = l := by unfold put; rw [if_neg (fun e => by omega)]
    rw [e]
    exact HO2.out

set_option maxHeartbeats 1000000 in
set_option maxRecDepth 100000 in
theorem resize_any (A : Option Addr) (n c B : Nat) (l : List Bool) (width : Int) (w : World) (hr : Nums w B A n l) (hB : B ≤ w.heap.size) (hnil : A = none → n = 0 ∧ c = 0) :
    Calls Try.prog 21 #[.slice A n c, .int .i64 width] w fun e w' => ∃ g, e = .returned (.slice (some ⟨g, 0, none⟩) (lim width) (lim width)) ∧ Out w w' (.slice (some ⟨g, 0, none⟩) (lim width) (lim width)) (fit l (lim width)) := by
  have HR := Lib.hid hr
  have HN := Lib.hid hnil
  have HC := Lib.hid (fit_copy l (lim width))
  clear hr hnil
  go_enter Try.func21, Try.ntmps21
  go_wp2_with fail
  refine (new_any width w).mono ?_
  rintro e w1 ⟨g, rfl, hO⟩
  obtain ⟨z, w2, hcp, hO2⟩ := run_copyB 3 w w1 g _ _ _ l A n c B hO (HR.out.below hO.2 hB) HN.out
  rw [HC.out] at hO2
  have HO2 := Lib.hid hO2
  clear hO hO2
  go_wp2
  go_ret
  exact ⟨_, rfl, HO2.out⟩

set_option maxHeartbeats 1000000 in
set_option maxRecDepth 100000 in
theorem awake_any (w : World) : Calls Try.prog 11 #[] w fun e w' => e = .returned (.bool true) ∧ Below w.heap.size w w' := by
  have hl : lim 20 = 20 := by decide
  have CN := Lib.hid (new_any 20 w)
  rw [hl] at CN
  go_enter Try.func11, Try.ntmps11
  go_wp2_with fail
  refine CN.out.mono ?_
  rintro e w1 ⟨g, rfl, hO⟩
  have hB := hO.2
  have HR := Lib.hid hO.nums.2
  have HB := Lib.hid hB
  clear hO hB CN
  go_wp2_with fail
  refine (next_any _ _ _ _ _ 0 (by omega) w1 HR.out).mono ?_
  rintro e w2 ⟨r, rfl, hN, rfl⟩
  obtain rfl := next0 hN
  clear hN
  go_wp2_with fail
  refine (next_any _ _ _ _ _ 8 (by omega) w1 HR.out).mono ?_
  rintro e w2 ⟨r, rfl, hN, rfl⟩
  obtain rfl := next8 hN
  clear hN
  go_wp2_with fail
  refine (next_any _ _ _ _ _ 16 (by omega) w1 HR.out).mono ?_
  rintro e w2 ⟨r, rfl, hN, rfl⟩
  obtain rfl := next16 hN
  clear hN
  go_wp2_with fail
  refine (prev_any _ _ _ _ _ 16 (by omega) w1 HR.out).mono ?_
  rintro e w2 ⟨r, rfl, hN, rfl⟩
  obtain rfl := prev16 hN
  clear hN
  go_wp2
  go_ret
  exact ⟨rfl, HB.out⟩

end Go.Proofs.Ytpnfpndhkegngaa
