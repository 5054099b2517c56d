/-
  What Delete of cellrow returns.
-/
import Derived.Test.YtcljmmadimldlaaDoorCrIns
namespace Go.Proofs.YtcljmmadimldlaaDoor
open Go.RowKit Go.Shelf Cr

set_option maxHeartbeats 4000000 in
set_option maxRecDepth 100000 in
theorem delete_any (A : Option Addr) (n c : Nat) (l : List C) (col x : Int) (f b g : Int) (w : World) (hr : Rd w A n l) (hnc : n ≤ c) (hmax : n ≤ 9223372036854775807) (ht : ∀ y ∈ l, y.t.size ≤ 300) (hT : Lib.Utf8Tabs 0 1 w) :
    Calls Tryd.prog 25 #[.slice A n c, .int .i64 col, .int .i64 x, .agg #[.int .i64 f, .int .i64 b, .int .i64 g]] w fun e w' => ∃ A' n' c', e = .returned (.tuple #[.slice A' n' c', .int .i64 (colE l col : Nat)]) ∧ GivesC w w' A' n' c' (delL l col x b) := by
  have hl : l.length = n := hr.1
  obtain ⟨W, hW⟩ : ∃ W, w.alloc (.cells #[.int .i64 f, .int .i64 b, .int .i64 g] 24) = W := ⟨_, rfl⟩
  have bW : Below w.heap.size w W := by rw [← hW]; exact (Below.refl _ _).alloc (Nat.le_refl _) _
  have hk : W.heap[w.heap.size]? = some (.cells #[.int .i64 f, .int .i64 b, .int .i64 g] 24) := by rw [← hW]; exact heap_alloc_new w _
  have CC := Lib.hid (checkColumn_any A n c l col W (hr.below bW) hnc hmax ht (Utf8Tabs_below hT bW))
  have HR := Lib.hid hr
  have HK := Lib.hid hk
  have HW := Lib.hid bW
  clear hr hk bW hT
  by_cases hq : colE l col = 0
  · rw [hq] at CC ⊢
    obtain ⟨k, rfl, hkl, hl132, hP⟩ := colE_zero hq
    obtain ⟨ab, ao, rfl⟩ := HR.out.addr (by rw [← hl]; omega)
    have hkz : (k : Int) < (n : Int) := by omega
    have hk0 : (0 : Int) ≤ (k : Int) := by omega
    have hn132 : (n : Int) ≤ 132 := by omega
    by_cases h1 : x < 1
    · have L2 : delL l (k : Int) x b = l := by unfold delL; rw [if_neg (by omega), if_pos h1]
      rw [L2]
      have CL := Lib.hid (fun W' (h : Rd W' (some ⟨ab, ao, none⟩) n l) => cloneR_any ab ao n c l (by omega) W' h)
      clear L2
      go_enter Tryd.func25, Tryd.ntmps25
      go_wp2_with fail
      refine CC.out.mono ?_
      rintro e w1 ⟨rfl, b1⟩
      have B1 := Lib.hid (HW.out.trans (b1.mono HW.out.size))
      clear b1 CC
      go_wp2_with fail
      refine (CL.out w1 (HR.out.below B1.out)).mono ?_
      rintro e w2 ⟨g2, c2, rfl, hO⟩
      have G := Lib.hid (hO.mine.gives.rebase B1.out)
      clear hO CL
      go_wp2
      go_ret2
      exact ⟨_, _, _, rfl, G.out⟩
    · obtain ⟨m, hm⟩ : ∃ m, min x.toNat (n - k) = m := ⟨_, rfl⟩
      have hmin : min x ((n : Int) - (k : Int)) = (m : Int) := by omega
      have L2 : delL l (k : Int) x b = del l k m b := by unfold delL; rw [if_neg (by omega), if_neg h1, Int.toNat_natCast, hl, hm]
      rw [L2]
      obtain ⟨e, he⟩ : ∃ e, k + m = e := ⟨_, rfl⟩
      have hadd : (k : Int) + (m : Int) = (e : Int) := by omega
      have hke : k ≤ e ∧ e ≤ n ∧ m ≤ n ∧ 1 ≤ m := by omega
      have hez1 : (k : Int) ≤ (e : Int) := by omega
      have hez2 : (e : Int) ≤ (n : Int) := by omega
      have he0 : (0 : Int) ≤ (e : Int) := by omega
      have CS := Lib.hid (fun (W' : World) (h : Rd W' (some ⟨ab, ao, none⟩) n l) => separate_any ab ao n c l (by omega) hP W'.heap.size 2 [k, e] (by intro y hy; simp at hy; rcases hy with rfl | rfl <;> omega) rfl (by decide) (W'.alloc (.cells #[.int .i64 (k : Int), .int .i64 (e : Int)] 3)) (h.alloc _) (two_cols k e))
      have CB := Lib.hid (fun W' => blanks_any m (by omega) b W')
      have hK1 : ∀ (W2 : World), Below W.heap.size W W2 → W2.heap[w.heap.size]? = some (.cells #[.int .i64 f, .int .i64 b, .int .i64 g] 24) := fun _ h2 => (h2.block _ (Array.getElem?_eq_some_iff.1 HK.out).1).trans HK.out
      have HKK := Lib.hid hK1
      have HKE := Lib.hid hke
      have HMN := Lib.hid hmin
      have hfin : (seps l [k, e]).take k ++ (seps l [k, e]).drop e ++ blanks m b = del l k m b := by
        unfold del
        rw [he, ← two_left hP k e hke.1 (by omega), ← two_right hP k e hke.1 (by omega)]
        rfl
      have HF := Lib.hid hfin
      have hsl : (seps l [k, e]).length = n := by rw [seps_length]; exact hl
      have HSL := Lib.hid hsl
      have hbl : (blanks m b).length = m := blanks_length m b
      have HBL := Lib.hid hbl
      clear L2 hm he hK1 hfin hsl hke hbl
      go_enter Tryd.func25, Tryd.ntmps25
      go_wp2_with fail
      refine CC.out.mono ?_
      rintro e' w1 ⟨rfl, b1⟩
      have B1 := Lib.hid (HW.out.trans (b1.mono HW.out.size))
      have BW1 := Lib.hid b1
      clear b1 CC
      go_wp2_with fail
      refine (CS.out w1 (HR.out.below B1.out)).mono ?_
      rintro e' w2 ⟨g2, cap, rfl, hO⟩
      have hb12 : Below w1.heap.size w1 w2 := ((Below.refl _ w1).alloc (Nat.le_refl _) _).trans (hO.2.mono (by simp))
      have hcap := hO.cap
      have hcz1 : (n : Int) ≤ (cap : Int) := by omega
      have hcz2 : (k : Int) ≤ (cap : Int) := by omega
      have hcz3 : (e : Int) ≤ (cap : Int) := by omega
      obtain ⟨R, hR⟩ : ∃ R : Option Addr, (if n = e then some ⟨g2, 0, none⟩ else some ⟨g2, e * 5, none⟩) = R := ⟨_, rfl⟩
      have hRd := hO.rd.1.drew
      have HM1 := Lib.hid (hRd.head (i := k) (by have := HKE.out; omega))
      have HR1 := Lib.hid (hRd.tail HKE.out.2.1 hR)
      have HN1 := Lib.hid (fun e' => tail_some hR e' (n - e))
      have hbw : Below W.heap.size W w2.drew := (BW1.out.trans (hb12.mono BW1.out.size)).drew
      have HBW := Lib.hid hbw
      have B2 := Lib.hid ((B1.out.trans (hb12.mono B1.out.size)).drew)
      have HRE := Lib.hid hR
      clear hO CS hRd hb12 hbw
      go_wp2
      go_region
      generalize w2.drew = w3 at HM1 HR1 HBW B2 ⊢
      clear hR
      have M3 := Lib.hid (Mine.full HM1.out)
      have M3d := Lib.hid (Mine.full (HM1.out.drew))
      have R3d := Lib.hid HR1.out.drew
      have p1 := cell_of_row w3 _ 1 _ _ _ (HKK.out w3 HBW.out)
      have l1 : ((seps l [k, e]).take k).length + ((seps l [k, e]).drop e).length ≤ 100000 := by rw [List.length_take, List.length_drop, HSL.out]; omega
      have l2 : ((seps l [k, e]).take k ++ (seps l [k, e]).drop e).length + (blanks m b).length ≤ 100000 := by rw [List.length_append, List.length_take, List.length_drop, HBL.out, HSL.out]; omega
      go_wp2
      go_region_law (first
        | (refine step_joinC (by rfl) (.tmp 50) (.tmp 51) (by rfl) w3.drew w3.drew _ _ _ R (n - e) (n - e) (by rfl) (by rfl) M3d.out R3d.out HN1.out l1 ?_; intro A4 n4 c4 w4 hO4; have HO4 := Lib.hid hO4.out; have p4 := cell_of_row w4 _ 1 _ _ _ (HKK.out w4 (HBW.out.drew.trans (HO4.out.1.mono HBW.out.drew.size))); clear hO4)
        | (go_simp; refine (CB.out w4).mono ?_; rintro e' w5 ⟨g5, rfl, hO5⟩; have HO5 := Lib.hid (HO4.out.below hO5.2); have HY := Lib.hid hO5.rd; clear hO5)
        | (refine step_joinC (by rfl) (.tmp 52) (.tmp 56) (by rfl) w3.drew w5 _ _ _ (some ⟨g5, 0, none⟩) m m (by rfl) (by rfl) HO5.out HY.out.1 HY.out.2 l2 ?_; intro A6 n6 c6 w6 hO6; have HF6 := Lib.hid (hO6.out.gives.rebase B2.out.drew); clear hO6)
        | (go_simp; refine (CB.out w3.drew).mono ?_; rintro e' w7 ⟨g7, rfl, hO7⟩; have M7 := Lib.hid (Mine.full (HM1.out.drew.below hO7.2)); have R7 := Lib.hid (R3d.out.below hO7.2); have Y7 := Lib.hid hO7.rd; have B7 := Lib.hid (B2.out.drew.trans (hO7.2.mono B2.out.drew.size)); clear hO7)
        | (refine step_joinC (by rfl) (.tmp 50) (.tmp 51) (by rfl) w7 w7 _ _ _ R (n - e) (n - e) (by rfl) (by rfl) M7.out R7.out HN1.out l1 ?_; intro A8 n8 c8 w8 hO8; have HO8 := Lib.hid hO8.out; have Y8 := Lib.hid (Y7.out.1.below HO8.out.1); clear hO8)
        | (refine step_joinC (by rfl) (.tmp 52) (.tmp 56) (by rfl) w7 w8 _ _ _ (some ⟨g7, 0, none⟩) m m (by rfl) (by rfl) HO8.out Y8.out Y7.out.2 l2 ?_; intro A6 n6 c6 w6 hO6; have HF6 := Lib.hid (hO6.out.gives.rebase B7.out); clear hO6))
      all_goals
        go_wp2
        go_ret2
        refine ⟨_, _, _, rfl, ?_⟩
        rw [← HF.out]
        exact HF6.out
  · have L2 : delL l col x b = [] := by unfold delL; rw [if_pos hq]
    rw [L2]
    clear L2
    obtain ⟨q, hqq⟩ : ∃ q, colE l col = q := ⟨_, rfl⟩
    rw [hqq] at CC hq ⊢
    clear hqq
    have hqb : (((q : Nat) : Int) != 0) = true := nat_ne hq
    go_enter Tryd.func25, Tryd.ntmps25
    go_wp2_with fail
    refine CC.out.mono ?_
    rintro e w1 ⟨rfl, b1⟩
    have B1 := Lib.hid (HW.out.trans (b1.mono HW.out.size))
    clear b1 CC
    go_wp2
    go_ret2
    exact ⟨_, _, _, rfl, gives_nil B1.out⟩

end Go.Proofs.YtcljmmadimldlaaDoor
