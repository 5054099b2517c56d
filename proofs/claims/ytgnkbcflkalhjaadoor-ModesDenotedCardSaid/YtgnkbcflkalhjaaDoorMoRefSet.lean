/-
  What the document's own Set returns.
-/
import Derived.Test.YtgnkbcflkalhjaaDoorMoSet
namespace Go.Proofs.YtgnkbcflkalhjaaDoor
open Go.RowKit Mo

theorem den_cases (p n : Int) : (p = 0 ∧ n = 4 ∧ den p n = 0) ∨ (p = 0 ∧ n = 20 ∧ den p n = 1) ∨ (p = 0 ∧ n ≠ 4 ∧ n ≠ 20 ∧ den p n = 8)
    ∨ (p = 63 ∧ n = 1 ∧ den p n = 2) ∨ (p = 63 ∧ n = 6 ∧ den p n = 3) ∨ (p = 63 ∧ n = 7 ∧ den p n = 4) ∨ (p = 63 ∧ n = 25 ∧ den p n = 5) ∨ (p = 63 ∧ n = 47 ∧ den p n = 6) ∨ (p = 63 ∧ n = 1047 ∧ den p n = 6) ∨ (p = 63 ∧ n = 1049 ∧ den p n = 6) ∨ (p = 63 ∧ n = 2048 ∧ den p n = 7)
    ∨ (p = 63 ∧ (n ≠ 1 ∧ n ≠ 6 ∧ n ≠ 7 ∧ n ≠ 25 ∧ n ≠ 47 ∧ n ≠ 1047 ∧ n ≠ 1049 ∧ n ≠ 2048) ∧ den p n = 8) ∨ (p ≠ 0 ∧ p ≠ 63 ∧ den p n = 8) := by
  by_cases h0 : p = 0
  · subst h0
    by_cases h1 : n = 4
    · exact .inl ⟨rfl, h1, by rw [h1]; rfl⟩
    · by_cases h2 : n = 20
      · exact .inr (.inl ⟨rfl, h2, by rw [h2]; rfl⟩)
      · exact .inr (.inr (.inl ⟨rfl, h1, h2, by simp [den, h1, h2]⟩))
  · by_cases h1 : p = 63
    · subst h1
      by_cases c : n = 1 ∨ n = 6 ∨ n = 7 ∨ n = 25 ∨ n = 47 ∨ n = 1047 ∨ n = 1049 ∨ n = 2048
      · rcases c with rfl | rfl | rfl | rfl | rfl | rfl | rfl | rfl <;> simp [den]
      · have c' : n ≠ 1 ∧ n ≠ 6 ∧ n ≠ 7 ∧ n ≠ 25 ∧ n ≠ 47 ∧ n ≠ 1047 ∧ n ≠ 1049 ∧ n ≠ 2048 := by omega
        refine .inr (.inr (.inr (.inr (.inr (.inr (.inr (.inr (.inr (.inr (.inr (.inl ⟨rfl, c', ?_⟩)))))))))))
        obtain ⟨c1, c2, c3, c4, c5, c6, c7, c8⟩ := c'
        simp [den, c1, c2, c3, c4, c5, c6, c7, c8]
    · refine .inr (.inr (.inr (.inr (.inr (.inr (.inr (.inr (.inr (.inr (.inr (.inr ⟨h0, h1, ?_⟩)))))))))))
      simp [den, h0, h1]

set_option maxHeartbeats 4000000 in
set_option maxRecDepth 100000 in
theorem refSet_any (m x : M) (p : Int) (on : Bool) (A : Option Addr) (n c B : Nat) (l : List Int) (hl : n ≤ 1000) (w : World) (hN : Nums w B A n l) (hB : B ≤ w.heap.size) (hx : set m p l on = x) :
    Calls Tryd.prog 15 #[.agg #[.bool m.f0, .bool m.f1, .bool m.f2, .bool m.f3, .bool m.f4, .bool m.f5, .bool m.f6, .bool m.f7, .int .u8 m.s0, .int .u8 m.s1, .int .i64 m.sh], .int .u8 p, .slice A n c, .bool on] w fun e w' => e = .returned (.agg #[.bool x.f0, .bool x.f1, .bool x.f2, .bool x.f3, .bool x.f4, .bool x.f5, .bool x.f6, .bool x.f7, .int .u8 x.s0, .int .u8 x.s1, .int .i64 x.sh]) ∧ Below w.heap.size w w' := by
  obtain ⟨q1, q2, q3, q4⟩ := call_mem w m _ (Below.refl _ _)
  obtain ⟨w1, hw1⟩ : ∃ w1, ((w.alloc (.cells #[.bool m.f0, .bool m.f1, .bool m.f2, .bool m.f3, .bool m.f4, .bool m.f5, .bool m.f6, .bool m.f7, .int .u8 m.s0, .int .u8 m.s1, .int .i64 m.sh] 24)).alloc (.cells #[.bool false, .bool false, .bool false, .bool false, .bool false, .bool false, .bool false, .bool false, .int .u8 0, .int .u8 0, .int .i64 0] 24)) = w1 := ⟨_, rfl⟩
  rw [hw1] at q1 q2 q3 q4
  have Q1 := Lib.hid q1
  have Q2 := Lib.hid q2
  have Q3 := Lib.hid q3
  have Q4 := Lib.hid q4
  clear q1 q2 q3 q4
  have HX := Lib.hid hx
  have HN := Lib.hid hN
  clear hx hN
  go_enter Tryd.func15, Tryd.ntmps15
  go_wp2
  clear hw1
  go_loopg [9, 10] n (fun gg s9 _ wr => ∃ k : Nat, k ≤ n ∧ n - k ≤ gg ∧ s9 = .int .i64 k ∧ Aside (Bx w.heap.size w1 wr) ∧ Aside (Md wr w.heap.size (set m p (l.take k) on)))
  case atStart => exact ⟨0, Nat.zero_le _, by omega, rfl, Bx.refl _ _, Q2.out⟩
  case round =>
    obtain ⟨k, hk, hg, rfl, BW, MW⟩ := hrel
    by_cases hkn : k < n
    · have hz : (k : Int) < (n : Int) := by omega
      have hz0 : (0 : Int) ≤ (k : Int) := by omega
      obtain ⟨b, off, rfl, hb, hc⟩ := HN.out.2 k hkn
      have hc := ((BW.out.cell (o := off + k) (by have := Q1.out.size; omega) (by omega)).trans (Q1.out.cell (p := ⟨b, off + k, none⟩) (by show b < w.heap.size; omega))).trans hc
      have hst := Lib.hid (set_take m p l on k (by have := HN.out.1; omega))
      obtain ⟨y, hy⟩ : ∃ y, l.getD k 0 = y := ⟨_, rfl⟩
      rw [hy] at hst hc
      clear hy hkn hb
      have HKN := Lib.hid hk
      rcases den_cases p y with ⟨h1, h2, h3⟩ | ⟨h1, h2, h3⟩ | ⟨h1, h2, h2', h3⟩ | ⟨h1, h2, h3⟩ | ⟨h1, h2, h3⟩ | ⟨h1, h2, h3⟩ | ⟨h1, h2, h3⟩ | ⟨h1, h2, h3⟩ | ⟨h1, h2, h3⟩ | ⟨h1, h2, h3⟩ | ⟨h1, h2, h3⟩ | ⟨h1, ⟨c1, c2, c3, c4, c5, c6, c7, c8⟩, h3⟩ | ⟨h1, h2, h3⟩
      · have d1 : (p == 0) = true := by simp [h1]
        have d2 : (p != 63) = true := by simp [h1]
        have f0 : (y == 4) = true := by simp [h2]
        have f1 : (y == 20) = false := by simp [h2]
        have ac := MW.out.at 0 (by omega)
        have az := MW.out.z 0
        rw [h3] at hst
        clear h1 h3 h2
        go_wp2
        go_roundg (n - (k + 1))
        case measure => omega
        case rel =>
          refine ⟨k + 1, by omega, by omega, by go_num, BW.out.set _ _, ?_⟩
          have := MW.out.s 0 on (by omega)
          rw [hst.out] at this
          exact this
      · have d1 : (p == 0) = true := by simp [h1]
        have d2 : (p != 63) = true := by simp [h1]
        have f0 : (y == 4) = false := by simp [h2]
        have f1 : (y == 20) = true := by simp [h2]
        have ac := MW.out.at 1 (by omega)
        have az := MW.out.z 1
        rw [h3] at hst
        clear h1 h3 h2
        go_wp2
        go_roundg (n - (k + 1))
        case measure => omega
        case rel =>
          refine ⟨k + 1, by omega, by omega, by go_num, BW.out.set _ _, ?_⟩
          have := MW.out.s 1 on (by omega)
          rw [hst.out] at this
          exact this
      · have d1 : (p == 0) = true := by simp [h1]
        have d2 : (p != 63) = true := by simp [h1]
        have f0 : (y == 4) = false := by simp [h2]
        have f1 : (y == 20) = false := by simp [h2']
        rw [h3] at hst
        clear h1 h3 h2 h2'
        go_wp2
        go_roundg (n - (k + 1))
        case measure => omega
        case rel =>
          refine ⟨k + 1, by omega, by omega, by go_num, BW.out, ?_⟩
          have := MW.out
          rw [← hst.out]
          exact this
      · have d1 : (p == 0) = false := by simp [h1]
        have d2 : (p != 63) = false := by simp [h1]
        have f0 : (y == 1) = true := by simp [h2]
        have f1 : (y == 6) = false := by simp [h2]
        have f2 : (y == 7) = false := by simp [h2]
        have f3 : (y == 25) = false := by simp [h2]
        have f4 : (y == 47) = false := by simp [h2]
        have f5 : (y == 1047) = false := by simp [h2]
        have f6 : (y == 1049) = false := by simp [h2]
        have f7 : (y == 2048) = false := by simp [h2]
        have ac := MW.out.at 2 (by omega)
        have az := MW.out.z 2
        rw [h3] at hst
        clear h1 h3 h2
        go_wp2
        go_roundg (n - (k + 1))
        case measure => omega
        case rel =>
          refine ⟨k + 1, by omega, by omega, by go_num, BW.out.set _ _, ?_⟩
          have := MW.out.s 2 on (by omega)
          rw [hst.out] at this
          exact this
      · have d1 : (p == 0) = false := by simp [h1]
        have d2 : (p != 63) = false := by simp [h1]
        have f0 : (y == 1) = false := by simp [h2]
        have f1 : (y == 6) = true := by simp [h2]
        have f2 : (y == 7) = false := by simp [h2]
        have f3 : (y == 25) = false := by simp [h2]
        have f4 : (y == 47) = false := by simp [h2]
        have f5 : (y == 1047) = false := by simp [h2]
        have f6 : (y == 1049) = false := by simp [h2]
        have f7 : (y == 2048) = false := by simp [h2]
        have ac := MW.out.at 3 (by omega)
        have az := MW.out.z 3
        rw [h3] at hst
        clear h1 h3 h2
        go_wp2
        go_roundg (n - (k + 1))
        case measure => omega
        case rel =>
          refine ⟨k + 1, by omega, by omega, by go_num, BW.out.set _ _, ?_⟩
          have := MW.out.s 3 on (by omega)
          rw [hst.out] at this
          exact this
      · have d1 : (p == 0) = false := by simp [h1]
        have d2 : (p != 63) = false := by simp [h1]
        have f0 : (y == 1) = false := by simp [h2]
        have f1 : (y == 6) = false := by simp [h2]
        have f2 : (y == 7) = true := by simp [h2]
        have f3 : (y == 25) = false := by simp [h2]
        have f4 : (y == 47) = false := by simp [h2]
        have f5 : (y == 1047) = false := by simp [h2]
        have f6 : (y == 1049) = false := by simp [h2]
        have f7 : (y == 2048) = false := by simp [h2]
        have ac := MW.out.at 4 (by omega)
        have az := MW.out.z 4
        rw [h3] at hst
        clear h1 h3 h2
        go_wp2
        go_roundg (n - (k + 1))
        case measure => omega
        case rel =>
          refine ⟨k + 1, by omega, by omega, by go_num, BW.out.set _ _, ?_⟩
          have := MW.out.s 4 on (by omega)
          rw [hst.out] at this
          exact this
      · have d1 : (p == 0) = false := by simp [h1]
        have d2 : (p != 63) = false := by simp [h1]
        have f0 : (y == 1) = false := by simp [h2]
        have f1 : (y == 6) = false := by simp [h2]
        have f2 : (y == 7) = false := by simp [h2]
        have f3 : (y == 25) = true := by simp [h2]
        have f4 : (y == 47) = false := by simp [h2]
        have f5 : (y == 1047) = false := by simp [h2]
        have f6 : (y == 1049) = false := by simp [h2]
        have f7 : (y == 2048) = false := by simp [h2]
        have ac := MW.out.at 5 (by omega)
        have az := MW.out.z 5
        rw [h3] at hst
        clear h1 h3 h2
        go_wp2
        go_roundg (n - (k + 1))
        case measure => omega
        case rel =>
          refine ⟨k + 1, by omega, by omega, by go_num, BW.out.set _ _, ?_⟩
          have := MW.out.s 5 on (by omega)
          rw [hst.out] at this
          exact this
      · have d1 : (p == 0) = false := by simp [h1]
        have d2 : (p != 63) = false := by simp [h1]
        have f0 : (y == 1) = false := by simp [h2]
        have f1 : (y == 6) = false := by simp [h2]
        have f2 : (y == 7) = false := by simp [h2]
        have f3 : (y == 25) = false := by simp [h2]
        have f4 : (y == 47) = true := by simp [h2]
        have f5 : (y == 1047) = false := by simp [h2]
        have f6 : (y == 1049) = false := by simp [h2]
        have f7 : (y == 2048) = false := by simp [h2]
        have ac := MW.out.at 6 (by omega)
        have az := MW.out.z 6
        rw [h3] at hst
        clear h1 h3 h2
        go_wp2
        go_roundg (n - (k + 1))
        case measure => omega
        case rel =>
          refine ⟨k + 1, by omega, by omega, by go_num, BW.out.set _ _, ?_⟩
          have := MW.out.s 6 on (by omega)
          rw [hst.out] at this
          exact this
      · have d1 : (p == 0) = false := by simp [h1]
        have d2 : (p != 63) = false := by simp [h1]
        have f0 : (y == 1) = false := by simp [h2]
        have f1 : (y == 6) = false := by simp [h2]
        have f2 : (y == 7) = false := by simp [h2]
        have f3 : (y == 25) = false := by simp [h2]
        have f4 : (y == 47) = false := by simp [h2]
        have f5 : (y == 1047) = true := by simp [h2]
        have f6 : (y == 1049) = false := by simp [h2]
        have f7 : (y == 2048) = false := by simp [h2]
        have ac := MW.out.at 6 (by omega)
        have az := MW.out.z 6
        rw [h3] at hst
        clear h1 h3 h2
        go_wp2
        go_roundg (n - (k + 1))
        case measure => omega
        case rel =>
          refine ⟨k + 1, by omega, by omega, by go_num, BW.out.set _ _, ?_⟩
          have := MW.out.s 6 on (by omega)
          rw [hst.out] at this
          exact this
      · have d1 : (p == 0) = false := by simp [h1]
        have d2 : (p != 63) = false := by simp [h1]
        have f0 : (y == 1) = false := by simp [h2]
        have f1 : (y == 6) = false := by simp [h2]
        have f2 : (y == 7) = false := by simp [h2]
        have f3 : (y == 25) = false := by simp [h2]
        have f4 : (y == 47) = false := by simp [h2]
        have f5 : (y == 1047) = false := by simp [h2]
        have f6 : (y == 1049) = true := by simp [h2]
        have f7 : (y == 2048) = false := by simp [h2]
        have ac := MW.out.at 6 (by omega)
        have az := MW.out.z 6
        rw [h3] at hst
        clear h1 h3 h2
        go_wp2
        go_roundg (n - (k + 1))
        case measure => omega
        case rel =>
          refine ⟨k + 1, by omega, by omega, by go_num, BW.out.set _ _, ?_⟩
          have := MW.out.s 6 on (by omega)
          rw [hst.out] at this
          exact this
      · have d1 : (p == 0) = false := by simp [h1]
        have d2 : (p != 63) = false := by simp [h1]
        have f0 : (y == 1) = false := by simp [h2]
        have f1 : (y == 6) = false := by simp [h2]
        have f2 : (y == 7) = false := by simp [h2]
        have f3 : (y == 25) = false := by simp [h2]
        have f4 : (y == 47) = false := by simp [h2]
        have f5 : (y == 1047) = false := by simp [h2]
        have f6 : (y == 1049) = false := by simp [h2]
        have f7 : (y == 2048) = true := by simp [h2]
        have ac := MW.out.at 7 (by omega)
        have az := MW.out.z 7
        rw [h3] at hst
        clear h1 h3 h2
        go_wp2
        go_roundg (n - (k + 1))
        case measure => omega
        case rel =>
          refine ⟨k + 1, by omega, by omega, by go_num, BW.out.set _ _, ?_⟩
          have := MW.out.s 7 on (by omega)
          rw [hst.out] at this
          exact this
      · have d1 : (p == 0) = false := by simp [h1]
        have d2 : (p != 63) = false := by simp [h1]
        have f0 : (y == 1) = false := by simp [c1]
        have f1 : (y == 6) = false := by simp [c2]
        have f2 : (y == 7) = false := by simp [c3]
        have f3 : (y == 25) = false := by simp [c4]
        have f4 : (y == 47) = false := by simp [c5]
        have f5 : (y == 1047) = false := by simp [c6]
        have f6 : (y == 1049) = false := by simp [c7]
        have f7 : (y == 2048) = false := by simp [c8]
        rw [h3] at hst
        clear h1 h3 c1 c2 c3 c4 c5 c6 c7 c8
        go_wp2
        go_roundg (n - (k + 1))
        case measure => omega
        case rel =>
          refine ⟨k + 1, by omega, by omega, by go_num, BW.out, ?_⟩
          have := MW.out
          rw [← hst.out]
          exact this
      · have d1 : (p == 0) = false := by simp [h1]
        have d2 : (p != 63) = true := by simp [h2]
        rw [h3] at hst
        clear h1 h3 h2
        go_wp2
        go_roundg (n - (k + 1))
        case measure => omega
        case rel =>
          refine ⟨k + 1, by omega, by omega, by go_num, BW.out, ?_⟩
          have := MW.out
          rw [← hst.out]
          exact this
    · have hz : ¬ (k : Int) < (n : Int) := by omega
      have HK := Lib.hid (show k = n by omega)
      have MX : Md wr w.heap.size x := by
        have := MW.out
        rw [HK.out, List.take_of_length_le (by have := HN.out.1; omega), HX.out] at this
        exact this
      have RX : Md wr (w.heap.size + 1) zero := (BW.out.2.2.2.2 _ (by have := Q4.out; omega) (by omega)).trans Q3.out
      have F := Lib.hid RX
      obtain ⟨u0, u1, u2, u3, u4, u5, u6, u7, u8, u9, u10⟩ := MX.all
      obtain ⟨v0, v1, v2, v3, v4, v5, v6, v7, v8, v9, v10⟩ := RX.all
      obtain ⟨z0, z1, z2, z3, z4, z5, z6, z7, z8, z9, z10⟩ := RX.zs
      clear hkn MW RX MX
      go_wp2
      refine bodyPost_ret (res_m rfl _ _ (w.heap.size + 1) x rfl (F.out.store x)) rfl ⟨rfl, ?_⟩
      exact below_store (Q1.out.trans (BW.out.below (Nat.le_trans (by omega) Q4.out) (Nat.le_refl _))) (by omega) x

end Go.Proofs.YtgnkbcflkalhjaaDoor
