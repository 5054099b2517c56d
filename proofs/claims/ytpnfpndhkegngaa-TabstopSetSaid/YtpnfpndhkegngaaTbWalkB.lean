/-
  The statements of layer 9 on New, Set and Resize: the walks.
-/
import Derived.Test.YtpnfpndhkegngaaTbWalkA
namespace Go.Proofs.Ytpnfpndhkegngaa
open Go.RowKit Tb

theorem below_step {w a b : World} (h : Below w.heap.size w a) (h2 : Below a.heap.size a b) : Below w.heap.size w b := h.trans (h2.mono h.size)

set_option maxHeartbeats 1000000 in
set_option maxRecDepth 100000 in
theorem edits_walk (A : Option Addr) (n c : Nat) (l : List Bool) (col width : Int) (q : Bool) (w : World) (hr : Nums w w.heap.size A n l) (hnil : A = none → n = 0 ∧ c = 0) (hn : n ≤ 9223372036854775807) :
    Calls Try.prog 4 #[.agg #[.slice A n c, .int .i64 col, .int .i64 width, .bool q]] w fun e w' => e = .returned (.bool true) ∧ Below w.heap.size w w' := by
  have HB := Lib.hid (fun k => below_drewN ((Below.refl w.heap.size w).alloc (Nat.le_refl _) (.cells #[.slice A n c, .int .i64 col, .int .i64 width, .bool q] 28)) k)
  have CF := Lib.hid (fun W => fine_any A n c W hn)
  have HR := Lib.hid hr
  have HL := Lib.hid hr.1
  have HN := Lib.hid hnil
  clear hr hnil
  by_cases hq : n ≤ 140
  · by_cases hw : width ≤ 140
    · have hwz : ¬ 140 < width := by omega
      rw [decide_eq_true hq] at CF
      go_enter Try.func4, Try.ntmps4
      go_wp2
      go_quiet (fail)
      have HB0 := Lib.hid (HB.out nq)
      generalize (w.alloc (.cells #[.slice A n c, .int .i64 col, .int .i64 width, .bool q] 28)).drewN nq = w0 at HB0 ⊢
      clear HB
      go_wp2_with fail
      refine (CF.out w0).mono ?_
      rintro e w1 ⟨rfl, rfl⟩
      clear CF
      go_wp2_with fail
      refine (new_any width w0).mono ?_
      rintro e w1 ⟨g1, rfl, hO⟩
      have O1 := Lib.hid hO
      clear hO
      go_wp2_with fail
      refine (refNew_any width w1).mono ?_
      rintro e w2 ⟨A2, c2, rfl, hO⟩
      have O2 := Lib.hid hO
      clear hO
      go_wp2_with fail
      refine (same_yes _ _ _ _ _ _ _ _ (deflt (lim width)) w2 (by rw [deflt_length]; have := lim_le width; omega) (O1.out.nums.2.below O2.out.2 (Nat.le_refl _)) O2.out.nums.2).mono ?_
      rintro e w3 ⟨rfl, hS⟩
      have HB3 := Lib.hid (below_step (below_step (below_step HB0.out O1.out.2) O2.out.2) hS)
      clear hS O1 O2 HB0
      go_wp2_with fail
      refine (set_any A n c _ l col q (by omega) w3 (HR.out.below HB3.out (Nat.le_refl _)) HB3.out.size HN.out).mono ?_
      rintro e w4 ⟨g4, rfl, hO⟩
      have O1 := Lib.hid hO
      have HB4 := Lib.hid (below_step HB3.out hO.2)
      clear hO
      go_wp2_with fail
      refine (refSet_any A n c _ l col q (by omega) w4 (HR.out.below HB4.out (Nat.le_refl _)) HB4.out.size HN.out).mono ?_
      rintro e w5 ⟨A5, c5, rfl, hO⟩
      have O2 := Lib.hid hO
      clear hO
      go_wp2_with fail
      refine (same_yes _ _ _ _ _ _ _ _ (put l col q) w5 (by rw [put_length, HL.out]; omega) (O1.out.nums.2.below O2.out.2 (Nat.le_refl _)) O2.out.nums.2).mono ?_
      rintro e w6 ⟨rfl, hS⟩
      have HB6 := Lib.hid (below_step (below_step HB4.out O2.out.2) hS)
      clear hS O1 O2 HB4 HB3
      go_wp2_with fail
      refine (resize_any A n c _ l width w6 (HR.out.below HB6.out (Nat.le_refl _)) HB6.out.size HN.out).mono ?_
      rintro e w7 ⟨g7, rfl, hO⟩
      have O1 := Lib.hid hO
      have HB7 := Lib.hid (below_step HB6.out hO.2)
      clear hO
      go_wp2_with fail
      refine (refResize_any A n c _ l width w7 (HR.out.below HB7.out (Nat.le_refl _)) HB7.out.size).mono ?_
      rintro e w8 ⟨A8, c8, rfl, hO⟩
      have O2 := Lib.hid hO
      clear hO
      go_wp2_with fail
      refine (same_yes _ _ _ _ _ _ _ _ (fit l (lim width)) w8 (by rw [fit_length]; have := lim_le width; omega) (O1.out.nums.2.below O2.out.2 (Nat.le_refl _)) O2.out.nums.2).mono ?_
      rintro e w9 ⟨rfl, hS⟩
      have HB9 := Lib.hid (below_step (below_step HB7.out O2.out.2) hS)
      clear hS O1 O2 HB7 HB6
      go_wp2_with fail
      refine (awake_any w9).mono ?_
      rintro e w10 ⟨rfl, hS⟩
      have HB10 := Lib.hid (below_step HB9.out hS)
      clear hS
      go_wp2
      go_ret
      exact ⟨rfl, HB10.out⟩
    · have hwz : 140 < width := by omega
      rw [decide_eq_true hq] at CF
      go_enter Try.func4, Try.ntmps4
      go_wp2
      go_quiet (fail)
      have HB0 := Lib.hid (HB.out nq)
      generalize (w.alloc (.cells #[.slice A n c, .int .i64 col, .int .i64 width, .bool q] 28)).drewN nq = w0 at HB0 ⊢
      clear HB
      go_wp2_with fail
      refine (CF.out w0).mono ?_
      rintro e w1 ⟨rfl, rfl⟩
      go_wp2_with fail
      refine (awake_any w0).mono ?_
      rintro e w10 ⟨rfl, hS⟩
      have HB10 := Lib.hid (below_step HB0.out hS)
      clear hS
      go_wp2
      go_ret
      exact ⟨rfl, HB10.out⟩
  · rw [decide_eq_false hq] at CF
    go_enter Try.func4, Try.ntmps4
    go_wp2
    go_quiet (fail)
    have HB0 := Lib.hid (HB.out nq)
    generalize (w.alloc (.cells #[.slice A n c, .int .i64 col, .int .i64 width, .bool q] 28)).drewN nq = w0 at HB0 ⊢
    clear HB
    go_wp2_with fail
    refine (CF.out w0).mono ?_
    rintro e w1 ⟨rfl, rfl⟩
    go_wp2_with fail
    refine (awake_any w0).mono ?_
    rintro e w10 ⟨rfl, hS⟩
    have HB10 := Lib.hid (below_step HB0.out hS)
    clear hS
    go_wp2
    go_ret
    exact ⟨rfl, HB10.out⟩

set_option maxHeartbeats 1000000 in
set_option maxRecDepth 100000 in
theorem resize_walk (A : Option Addr) (n c : Nat) (l : List Bool) (col : Int) (w : World) (hr : Nums w w.heap.size A n l) (hnil : A = none → n = 0 ∧ c = 0) (hn : n ≤ 9223372036854775807) (h0 : 0 ≤ col) (h255 : col ≤ 255) :
    Calls Try.prog 9 #[.slice A n c, .int .u8 col] w fun e w' => e = .returned (.bool true) ∧ Below w.heap.size w w' := by
  obtain ⟨k0, rfl⟩ : ∃ k : Nat, col = (k : Int) := ⟨col.toNat, by omega⟩
  obtain ⟨m, hm, hm2⟩ : ∃ m : Nat, ((k0 : Nat) : Int).tmod 141 = (m : Int) ∧ m < 141 := ⟨k0 % 141, by rw [Int.ofNat_tmod]; rfl, Nat.mod_lt _ (by decide)⟩
  have hlm : lim (m : Int) = m := lim_of m (by omega)
  have CF := Lib.hid (fun W => fine_any A n c W hn)
  have CR := Lib.hid (fun (A : Option Addr) (n c B : Nat) (l : List Bool) (w : World) (hr : Nums w B A n l) (hB : B ≤ w.heap.size) (hnil : A = none → n = 0 ∧ c = 0) => resize_any A n c B l (m : Int) w hr hB hnil)
  have CN := Lib.hid (fun w => new_any (m : Int) w)
  rw [hlm] at CR CN
  clear hlm
  have HR := Lib.hid hr
  have HL := Lib.hid hr.1
  have HN := Lib.hid hnil
  clear hr hnil
  by_cases hq : n ≤ 140
  · rw [decide_eq_true hq] at CF
    have hzm : (m : Int) < 141 := by omega
    have hzm0 : (0 : Int) ≤ (m : Int) := by omega
    have hzn : (n : Int) ≤ 140 := by omega
    have hne : ((m : Int) != (m : Int)) = false := by simp
    go_enter Try.func9, Try.ntmps9
    go_wp2_with fail
    refine (CF.out w).mono ?_
    rintro e w1 ⟨rfl, rfl⟩
    clear CF
    go_wp2_with fail
    refine (CR.out A n c _ l w HR.out (Nat.le_refl _) HN.out).mono ?_
    rintro e w1 ⟨g, rfl, hO⟩
    have HB1 := Lib.hid hO.2
    have HX := Lib.hid hO.nums.2
    clear hO
    go_wp2
    go_loopg [7, 8, 25] (m + 1) (fun gk v7 v8 v25 wr => ∃ j : Nat, gk + j = m + 1 ∧ j ≤ m ∧ v25 = .int .i64 (j : Int) ∧ w1 = wr)
    case atStart => exact ⟨0, by omega, by omega, rfl, rfl⟩
    case round =>
      obtain ⟨j, hg, hjm, rfl, rfl⟩ := hrel
      by_cases hlt : j < m
      · obtain ⟨g', rfl⟩ : ∃ g', gk = g' + 1 := ⟨gk - 1, by omega⟩
        have hz : (j : Int) < (m : Int) := by omega
        have hz0 : (0 : Int) ≤ (j : Int) := by omega
        have hr8 := rem8 j
        obtain ⟨b, off, e, _, hcell⟩ := HX.out.2 j hlt
        injection e with e
        injection e with e1 e2
        subst e1 e2
        rw [Nat.zero_add] at hcell
        have hval := fit_at l m j hlt
        unfold on at hval
        rw [hval] at hcell
        clear hval
        by_cases hjn : j < n
        · have hzj : (j : Int) < (n : Int) := by omega
          obtain ⟨b2, off2, rfl, _, hcell2⟩ := (HR.out.below HB1.out (Nat.le_refl _)).2 j hjn
          have hval2 : l.getD j (j % 8 == 0) = l.getD j false := by
            have : j < l.length := by rw [HL.out]; exact hjn
            simp [this]
          rw [hval2] at hcell
          clear hval2
          obtain ⟨y, hy⟩ : ∃ y, j % 8 = y := ⟨_, rfl⟩
          rw [hy] at hr8
          clear hy
          obtain ⟨x, hx⟩ : ∃ x, l.getD j false = x := ⟨_, rfl⟩
          rw [hx] at hcell hcell2
          clear hx
          have hxx : (x != x) = false := by simp
          obtain ⟨p, hp⟩ : ∃ p, ((y : Int) == 0) = p := ⟨_, rfl⟩
          go_wp2
          go_roundg g'
          case measure => omega
          case rel => exact ⟨j + 1, by omega, by omega, by go_num, rfl⟩
        · have hzj : ¬ (j : Int) < (n : Int) := by omega
          have hval2 : l.getD j (j % 8 == 0) = (j % 8 == 0) := by
            have : ¬ j < l.length := by rw [HL.out]; exact hjn
            simp [this]
          rw [hval2] at hcell
          clear hval2
          obtain ⟨y, hy⟩ : ∃ y, j % 8 = y := ⟨_, rfl⟩
          rw [hy] at hr8 hcell
          clear hy
          by_cases hy0 : y = 0
          · subst hy0
            go_wp2
            go_roundg g'
            case measure => omega
            case rel => exact ⟨j + 1, by omega, by omega, by go_num, rfl⟩
          · have hyz : (((y : Int)) == 0) = false := by simpa using hy0
            have hyn : ((y == 0) : Bool) = false := by simpa using hy0
            rw [hyn] at hcell
            clear hyn hy0
            go_wp2
            go_roundg g'
            case measure => omega
            case rel => exact ⟨j + 1, by omega, by omega, by go_num, rfl⟩
      · have hz : ¬ (j : Int) < (m : Int) := by omega
        have hnl : Nums w1 0 none 0 [] := ⟨rfl, fun j hj => by omega⟩
        go_wp2_with fail
        refine (CR.out none 0 0 0 [] w1 hnl (Nat.zero_le _) (fun _ => ⟨rfl, rfl⟩)).mono ?_
        rintro e w2 ⟨g2, rfl, hO⟩
        rw [fit_nil] at hO
        have O1 := Lib.hid hO
        clear hO hnl
        go_wp2_with fail
        refine (CN.out w2).mono ?_
        rintro e w3 ⟨g3, rfl, hO⟩
        have O2 := Lib.hid hO
        clear hO
        go_wp2_with fail
        refine (same_yes _ _ _ _ _ _ _ _ (deflt m) w3 (by rw [deflt_length]; omega) (O1.out.nums.2.below O2.out.2 (Nat.le_refl _)) O2.out.nums.2).mono ?_
        rintro e w4 ⟨rfl, hS⟩
        have HB4 := Lib.hid (below_step (below_step (below_step HB1.out O1.out.2) O2.out.2) hS)
        clear hS O1 O2
        go_wp2_with fail
        refine (awake_any w4).mono ?_
        rintro e w5 ⟨rfl, hS⟩
        have HB5 := Lib.hid (below_step HB4.out hS)
        clear hS
        go_wp2
        go_ret
        exact ⟨rfl, HB5.out⟩
  · rw [decide_eq_false hq] at CF
    have hzm : (m : Int) < 141 := by omega
    have hzm0 : (0 : Int) ≤ (m : Int) := by omega
    go_enter Try.func9, Try.ntmps9
    go_wp2_with fail
    refine (CF.out w).mono ?_
    rintro e w1 ⟨rfl, rfl⟩
    go_wp2_with fail
    refine (awake_any w).mono ?_
    rintro e w5 ⟨rfl, hS⟩
    go_wp2
    go_ret
    exact ⟨rfl, hS⟩

end Go.Proofs.Ytpnfpndhkegngaa
