/-
  What Insert of cellrow returns.
-/
import Derived.Test.YtcljmmadimldlaaDoorCrErase
namespace Go.Proofs.YtcljmmadimldlaaDoor
open Go.RowKit Go.Shelf Cr

def insL (l : List C) (col n b : Int) : List C := if colE l col ≠ 0 then [] else if n < 1 then l else ins l col.toNat (min n.toNat (l.length - col.toNat)) b
def delL (l : List C) (col n b : Int) : List C := if colE l col ≠ 0 then [] else if n < 1 then l else del l col.toNat (min n.toNat (l.length - col.toNat)) b

theorem two_cols {w : World} (i j : Nat) : Cols (w.alloc (.cells #[.int .i64 (i : Int), .int .i64 (j : Int)] 3)) w.heap.size [i, j] := by
  refine ⟨by simp, fun q k hq => ?_⟩
  have hh := heap_alloc_new w (.cells #[.int .i64 (i : Int), .int .i64 (j : Int)] 3)
  match q, hq with
  | 0, hq => have e : i = k := by simpa using hq
             rw [← e]; exact cell_of_row _ w.heap.size 0 _ _ _ hh
  | 1, hq => have e : j = k := by simpa using hq
             rw [← e]; exact cell_of_row _ w.heap.size 1 _ _ _ hh
  | q + 2, hq => simp at hq
theorem Own.cap {w0 w : World} {g n cap : Nat} {l : List C} (h : Own w0 w (.slice (some ⟨g, 0, none⟩) n cap) l) : n ≤ cap := h.mine.cap
/-- The middle of a slice. -/
theorem Rd.mid {w : World} {g n i j : Nat} {l : List C} (h : Rd w (some ⟨g, 0, none⟩) n l) (hij : i ≤ j) (hj : j ≤ n) {R : Option Addr} (hR : (if j = i then some ⟨g, 0, none⟩ else some ⟨g, i * 5, none⟩) = R) : Rd w R (j - i) ((l.drop i).take (j - i)) := by
  by_cases e : j = i
  · subst e
    rw [Nat.sub_self, List.take_zero]
    exact Rd.nil _ _
  · rw [if_neg e] at hR
    subst hR
    have := h.part i j hij hj
    rwa [Nat.zero_add] at this
theorem mid_some {j i g : Nat} {R : Option Addr} (hR : (if j = i then some ⟨g, 0, none⟩ else some ⟨g, i * 5, none⟩) = R) (e : R = none) (c : Nat) : j - i = 0 ∧ c = 0 := by
  split at hR <;> (subst hR; cases e)

set_option maxHeartbeats 4000000 in
set_option maxRecDepth 100000 in
theorem insert_any (A : Option Addr) (n c : Nat) (l : List C) (col x : Int) (f b g : Int) (w : World) (hr : Rd w A n l) (hnc : n ≤ c) (hmax : n ≤ 9223372036854775807) (ht : ∀ y ∈ l, y.t.size ≤ 300) (hT : Lib.Utf8Tabs 0 1 w) :
    Calls Tryd.prog 23 #[.slice A n c, .int .i64 col, .int .i64 x, .agg #[.int .i64 f, .int .i64 b, .int .i64 g]] w fun e w' => ∃ A' n' c', e = .returned (.tuple #[.slice A' n' c', .int .i64 (colE l col : Nat)]) ∧ GivesC w w' A' n' c' (insL l col x b) := by
  have hl : l.length = n := hr.1
  obtain ⟨W, hW⟩ : ∃ W, w.alloc (.cells #[.int .i64 f, .int .i64 b, .int .i64 g] 24) = W := ⟨_, rfl⟩
  have bW : Below w.heap.size w W := by rw [← hW]; exact (Below.refl _ _).alloc (Nat.le_refl _) _
  have hk : W.heap[w.heap.size]? = some (.cells #[.int .i64 f, .int .i64 b, .int .i64 g] 24) := by rw [← hW]; exact heap_alloc_new w _
  have CC := Lib.hid (checkColumn_any A n c l col W (hr.below bW) hnc hmax ht (Utf8Tabs_below hT bW))
  have HR := Lib.hid hr
  have HK := Lib.hid hk
  have HW := Lib.hid bW
  clear hr hk bW hT
  by_cases hq : colE l col = 0
  · rw [hq] at CC ⊢
    obtain ⟨k, rfl, hkl, hl132, hP⟩ := colE_zero hq
    obtain ⟨ab, ao, rfl⟩ := HR.out.addr (by rw [← hl]; omega)
    have hkz : (k : Int) < (n : Int) := by omega
    have hk0 : (0 : Int) ≤ (k : Int) := by omega
    have hn132 : (n : Int) ≤ 132 := by omega
    by_cases h1 : x < 1
    · have L2 : insL l (k : Int) x b = l := by unfold insL; rw [if_neg (by omega), if_pos h1]
      rw [L2]
      have CL := Lib.hid (fun W' (h : Rd W' (some ⟨ab, ao, none⟩) n l) => cloneR_any ab ao n c l (by omega) W' h)
      clear L2
      go_enter Tryd.func23, Tryd.ntmps23
      go_wp2_with fail
      refine CC.out.mono ?_
      rintro e w1 ⟨rfl, b1⟩
      have B1 := Lib.hid (HW.out.trans (b1.mono HW.out.size))
      clear b1 CC
      go_wp2_with fail
      refine (CL.out w1 (HR.out.below B1.out)).mono ?_
      rintro e w2 ⟨g2, c2, rfl, hO⟩
      have G := Lib.hid (hO.mine.gives.rebase B1.out)
      clear hO CL
      go_wp2
      go_ret2
      exact ⟨_, _, _, rfl, G.out⟩
    · obtain ⟨m, hm⟩ : ∃ m, min x.toNat (n - k) = m := ⟨_, rfl⟩
      have hmin : min x ((n : Int) - (k : Int)) = (m : Int) := by omega
      have L2 : insL l (k : Int) x b = ins l k m b := by unfold insL; rw [if_neg (by omega), if_neg h1, Int.toNat_natCast, hl, hm]
      rw [L2]
      obtain ⟨e, he⟩ : ∃ e, n - m = e := ⟨_, rfl⟩
      have hsub : (n : Int) - (m : Int) = (e : Int) := by omega
      have hke : k ≤ e ∧ e ≤ n ∧ m ≤ n ∧ 1 ≤ m := by omega
      have hez : (k : Int) ≤ (e : Int) ∧ (e : Int) ≤ (n : Int) := by omega
      obtain ⟨hez1, hez2⟩ := hez
      have CS := Lib.hid (fun (W' : World) (h : Rd W' (some ⟨ab, ao, none⟩) n l) => separate_any ab ao n c l (by omega) hP W'.heap.size 2 [k, e] (by intro y hy; simp at hy; rcases hy with rfl | rfl <;> omega) rfl (by decide) (W'.alloc (.cells #[.int .i64 (k : Int), .int .i64 (e : Int)] 3)) (h.alloc _) (two_cols k e))
      have CB := Lib.hid (fun W' => blanks_any m (by omega) b W')
      have hK1 : ∀ (W2 : World), Below W.heap.size W W2 → W2.heap[w.heap.size]? = some (.cells #[.int .i64 f, .int .i64 b, .int .i64 g] 24) := fun _ h2 => (h2.block _ (Array.getElem?_eq_some_iff.1 HK.out).1).trans HK.out
      have HKK := Lib.hid hK1
      have HKE := Lib.hid hke
      have HMN := Lib.hid hmin
      have hfin : (seps l [k, e]).take k ++ blanks m b ++ ((seps l [k, e]).drop k).take (e - k) = ins l k m b := by
        unfold ins
        rw [hl, he, ← two_left hP k e hke.1 (by omega), ← two_mid hP k e hke.1 (by omega)]
        rfl
      have HF := Lib.hid hfin
      have hsl : (seps l [k, e]).length = n := by rw [seps_length]; exact hl
      have HSL := Lib.hid hsl
      have hbl : (blanks m b).length = m := blanks_length m b
      have HBL := Lib.hid hbl
      clear L2 hm he hK1 hfin hsl hke hbl
      go_enter Tryd.func23, Tryd.ntmps23
      go_wp2_with fail
      refine CC.out.mono ?_
      rintro e' w1 ⟨rfl, b1⟩
      have B1 := Lib.hid (HW.out.trans (b1.mono HW.out.size))
      have BW1 := Lib.hid b1
      clear b1 CC
      go_wp2_with fail
      refine (CS.out w1 (HR.out.below B1.out)).mono ?_
      rintro e' w2 ⟨g2, cap, rfl, hO⟩
      have hb12 : Below w1.heap.size w1 w2 := ((Below.refl _ w1).alloc (Nat.le_refl _) _).trans (hO.2.mono (by simp))
      have hcap := hO.cap
      have hcz1 : (n : Int) ≤ (cap : Int) := by omega
      have hcz2 : (k : Int) ≤ (cap : Int) := by omega
      have hcz3 : (e : Int) ≤ (cap : Int) := by omega
      obtain ⟨R, hR⟩ : ∃ R : Option Addr, (if e = k then some ⟨g2, 0, none⟩ else some ⟨g2, k * 5, none⟩) = R := ⟨_, rfl⟩
      have hRd := hO.rd.1.drew
      have HM1 := Lib.hid (hRd.head (i := k) (by omega))
      have HR1 := Lib.hid (hRd.mid HKE.out.1 HKE.out.2.1 hR)
      have HN1 := Lib.hid (fun e' => mid_some hR e' (e - k))
      have p1 := cell_of_row w2.drew _ 1 _ _ _ (HKK.out w2.drew ((BW1.out.trans (hb12.mono BW1.out.size)).drew))
      have B2 := Lib.hid ((B1.out.trans (hb12.mono B1.out.size)).drew)
      have HRE := Lib.hid hR
      clear hO CS hRd hb12
      go_wp2
      go_region
      clear hR
      go_wp2_with fail
      refine (CB.out w2.drew).mono ?_
      rintro e' w3 ⟨g3, rfl, hO3⟩
      have M3 := Lib.hid (Mine.full (HM1.out.below hO3.2))
      have R3 := Lib.hid (HR1.out.below hO3.2)
      have Y3 := Lib.hid hO3.rd
      have B3 := Lib.hid (B2.out.trans (hO3.2.mono B2.out.size))
      have l1 : ((seps l [k, e]).take k).length + (blanks m b).length ≤ 100000 := by rw [List.length_take, HBL.out, HSL.out]; omega
      have l2 : ((seps l [k, e]).take k ++ blanks m b).length + (((seps l [k, e]).drop k).take (e - k)).length ≤ 100000 := by rw [List.length_append, List.length_take, List.length_take, List.length_drop, HBL.out, HSL.out]; omega
      clear hO3 CB p1
      go_wp2_with (first | (at_builtin; refine wpList_joinC rfl (.tmp 49) (.tmp 53) rfl w3 _ _ _ (blanks m b) (some ⟨g3, 0, none⟩) m m rfl rfl M3.out Y3.out.1 Y3.out.2 l1 ?_; intro A4 n4 c4 w4 hO4; have HO4 := Lib.hid hO4.out; have R4 := Lib.hid (R3.out.below HO4.out.1); clear hO4) | (at_builtin; refine wpList_joinC rfl (.tmp 54) (.tmp 55) rfl w3 _ _ _ _ R (e - k) (e - k) rfl rfl HO4.out R4.out HN1.out l2 ?_; intro A5 n5 c5 w5 hO5; have HO5 := Lib.hid hO5.out; clear hO5))
      go_ret2
      refine ⟨_, _, _, rfl, ?_⟩
      rw [← HF.out]
      exact HO5.out.gives.rebase B3.out
  · have L2 : insL l col x b = [] := by unfold insL; rw [if_pos hq]
    rw [L2]
    clear L2
    obtain ⟨q, hqq⟩ : ∃ q, colE l col = q := ⟨_, rfl⟩
    rw [hqq] at CC hq ⊢
    clear hqq
    have hqb : (((q : Nat) : Int) != 0) = true := nat_ne hq
    go_enter Tryd.func23, Tryd.ntmps23
    go_wp2_with fail
    refine CC.out.mono ?_
    rintro e w1 ⟨rfl, b1⟩
    have B1 := Lib.hid (HW.out.trans (b1.mono HW.out.size))
    clear b1 CC
    go_wp2
    go_ret2
    exact ⟨_, _, _, rfl, gives_nil B1.out⟩

end Go.Proofs.YtcljmmadimldlaaDoor
