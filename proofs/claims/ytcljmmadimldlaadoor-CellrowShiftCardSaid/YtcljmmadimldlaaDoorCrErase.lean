/-
  What Erase of cellrow returns.
-/
import Derived.Test.YtcljmmadimldlaaDoorCrPut
namespace Go.Proofs.YtcljmmadimldlaaDoor
open Go.RowKit Go.Shelf Cr

def eraE (l : List C) (i j : Int) : Nat := if check l ≠ 0 then 1 else if i < 0 ∨ j < i ∨ (l.length : Int) < j then 2 else 0
def eraL (l : List C) (i j b : Int) : List C := if eraE l i j ≠ 0 then [] else if i = j then l else repl l i.toNat j.toNat (blanks (j.toNat - i.toNat) b)

set_option maxHeartbeats 4000000 in
set_option maxRecDepth 100000 in
theorem erase_any (A : Option Addr) (n c : Nat) (l : List C) (i j : Int) (f b g : Int) (w : World) (hr : Rd w A n l) (hnc : n ≤ c) (hmax : n ≤ 9223372036854775807) (ht : ∀ x ∈ l, x.t.size ≤ 300) (hT : Lib.Utf8Tabs 0 1 w) :
    Calls Tryd.prog 27 #[.slice A n c, .int .i64 i, .int .i64 j, .agg #[.int .i64 f, .int .i64 b, .int .i64 g]] w fun e w' => ∃ A' n' c', e = .returned (.tuple #[.slice A' n' c', .int .i64 (eraE l i j : Nat)]) ∧ GivesC w w' A' n' c' (eraL l i j b) := by
  have hl : l.length = n := hr.1
  obtain ⟨W, hW⟩ : ∃ W, w.alloc (.cells #[.int .i64 f, .int .i64 b, .int .i64 g] 24) = W := ⟨_, rfl⟩
  have bW : Below w.heap.size w W := by rw [← hW]; exact (Below.refl _ _).alloc (Nat.le_refl _) _
  have hk : W.heap[w.heap.size]? = some (.cells #[.int .i64 f, .int .i64 b, .int .i64 g] 24) := by rw [← hW]; exact heap_alloc_new w _
  have CC := Lib.hid (checkRow_any A n c l W (hr.below bW) hnc hmax ht (Utf8Tabs_below hT bW))
  have HR := Lib.hid hr
  have HK := Lib.hid hk
  have HW := Lib.hid bW
  obtain ⟨q, hq⟩ : ∃ q, check l = q := ⟨_, rfl⟩
  have hE : eraE l i j = if q ≠ 0 then 1 else if i < 0 ∨ j < i ∨ (n : Int) < j then 2 else 0 := by unfold eraE; rw [hq, hl]
  have hbad : eraE l i j ≠ 0 → eraL l i j b = [] := fun h => by unfold eraL; rw [if_pos h]
  rw [hq] at CC
  clear hr hk bW hT
  by_cases h0 : q = 0
  · subst h0
    have hP := check_zero.1 hq
    by_cases h1 : i < 0 ∨ j < i ∨ (n : Int) < j
    · have e2 : eraE l i j = 2 := by rw [hE, if_neg (by simp), if_pos h1]
      rw [e2, hbad (by omega)]
      clear hE hbad e2
      by_cases ha : i < 0
      · go_enter Tryd.func27, Tryd.ntmps27
        go_wp2_with fail
        refine CC.out.mono ?_
        rintro e w1 ⟨rfl, b1⟩
        have B1 := Lib.hid (HW.out.trans (b1.mono HW.out.size))
        clear b1 CC
        go_wp2
        go_ret2
        exact ⟨_, _, _, rfl, gives_nil B1.out⟩
      · by_cases hb : j < i
        · go_enter Tryd.func27, Tryd.ntmps27
          go_wp2_with fail
          refine CC.out.mono ?_
          rintro e w1 ⟨rfl, b1⟩
          have B1 := Lib.hid (HW.out.trans (b1.mono HW.out.size))
          clear b1 CC
          go_wp2
          go_ret2
          exact ⟨_, _, _, rfl, gives_nil B1.out⟩
        · have hc : (n : Int) < j := by omega
          go_enter Tryd.func27, Tryd.ntmps27
          go_wp2_with fail
          refine CC.out.mono ?_
          rintro e w1 ⟨rfl, b1⟩
          have B1 := Lib.hid (HW.out.trans (b1.mono HW.out.size))
          clear b1 CC
          go_wp2
          go_ret2
          exact ⟨_, _, _, rfl, gives_nil B1.out⟩
    · have e2 : eraE l i j = 0 := by rw [hE, if_neg (by simp), if_neg h1]
      obtain ⟨x, rfl⟩ : ∃ x : Nat, i = (x : Int) := ⟨i.toNat, by omega⟩
      obtain ⟨y, rfl⟩ : ∃ y : Nat, j = (y : Int) := ⟨j.toNat, by omega⟩
      obtain ⟨ab, ao, rfl⟩ := HR.out.addr (by omega)
      have hx0 : ¬ (x : Int) < 0 := by omega
      have hxy : ¬ (y : Int) < (x : Int) := by omega
      have hyn : ¬ (n : Int) < (y : Int) := by omega
      have hn132 : (n : Int) ≤ 132 := by omega
      by_cases he : x = y
      · have L2 : eraL l (x : Int) (y : Int) b = l := by unfold eraL; rw [if_neg (by omega), if_pos (by omega)]
        rw [e2, L2]
        subst he
        have CL := Lib.hid (fun W' (h : Rd W' (some ⟨ab, ao, none⟩) n l) => cloneR_any ab ao n c l (by omega) W' h)
        clear hE hbad e2 L2
        go_enter Tryd.func27, Tryd.ntmps27
        go_wp2_with fail
        refine CC.out.mono ?_
        rintro e w1 ⟨rfl, b1⟩
        have B1 := Lib.hid (HW.out.trans (b1.mono HW.out.size))
        clear b1 CC
        go_wp2_with fail
        refine (CL.out w1 (HR.out.below B1.out)).mono ?_
        rintro e w2 ⟨g2, c2, rfl, hO⟩
        have G := Lib.hid (hO.mine.gives.rebase B1.out)
        clear hO CL
        go_wp2
        go_ret2
        exact ⟨_, _, _, rfl, G.out⟩
      · have L2 : eraL l (x : Int) (y : Int) b = repl l x y (blanks (y - x) b) := by
          unfold eraL
          rw [if_neg (by omega), if_neg (by omega), Int.toNat_natCast, Int.toNat_natCast]
        rw [e2, L2]
        obtain ⟨m, hm⟩ : ∃ m, y - x = m := ⟨_, rfl⟩
        rw [hm]
        have hsub : (y : Int) - (x : Int) = (m : Int) := by omega
        have hneq : ((x : Int) == (y : Int)) = false := by simp; omega
        have CB := Lib.hid (fun W' => blanks_any m (by omega) b W')
        have CR := Lib.hid (fun (A3 : Option Addr) (c3 : Nat) (W' : World) (h1 : Rd W' (some ⟨ab, ao, none⟩) n l) (h2 : Rd W' A3 m (blanks m b)) (h3 : A3 = none → m = 0 ∧ c3 = 0) => replace_any ab ao n c l (by omega) hP.2.2 x y (by omega) (by omega) A3 m c3 (blanks m b) (by omega) W' h1 h2 h3)
        have hK1 : ∀ (W2 : World), Below W.heap.size W W2 → W2.heap[w.heap.size]? = some (.cells #[.int .i64 f, .int .i64 b, .int .i64 g] 24) := fun _ h2 => (h2.block _ (Array.getElem?_eq_some_iff.1 HK.out).1).trans HK.out
        have HKK := Lib.hid hK1
        clear hE hbad e2 L2 hm hK1
        go_enter Tryd.func27, Tryd.ntmps27
        go_wp2_with fail
        refine CC.out.mono ?_
        rintro e w1 ⟨rfl, b1⟩
        have B1 := Lib.hid (HW.out.trans (b1.mono HW.out.size))
        have p1 := cell_of_row w1 _ 1 _ _ _ (HKK.out _ b1)
        clear b1 CC
        go_wp2_with fail
        refine (CB.out w1).mono ?_
        rintro e w2 ⟨g2, rfl, hO⟩
        have G2 := Lib.hid (hO.mine.gives)
        have B2 := Lib.hid (B1.out.trans (hO.2.mono B1.out.size))
        clear hO CB p1
        go_wp2_with fail
        refine (CR.out _ m w2 (HR.out.below B2.out) G2.out.1 G2.out.2.1.1).mono ?_
        rintro e w4 ⟨A4, n4, c4, rfl, g4⟩
        have G4 := Lib.hid (g4.rebase B2.out)
        clear g4 CR
        go_wp2
        go_ret2
        exact ⟨_, _, _, rfl, G4.out⟩
  · have hqb : (((q : Nat) : Int) != 0) = true := nat_ne h0
    have e2 : eraE l i j = 1 := by rw [hE, if_pos h0]
    rw [e2, hbad (by omega)]
    clear hE hbad e2
    go_enter Tryd.func27, Tryd.ntmps27
    go_wp2_with fail
    refine CC.out.mono ?_
    rintro e w1 ⟨rfl, b1⟩
    have B1 := Lib.hid (HW.out.trans (b1.mono HW.out.size))
    clear b1 CC
    go_wp2
    go_ret2
    exact ⟨_, _, _, rfl, gives_nil B1.out⟩

end Go.Proofs.YtcljmmadimldlaaDoor
