/-
  What Put, Insert, Delete, Erase and Fit of cellrow return: first Put and Erase.
-/
import Derived.Test.YtcljmmadimldlaaDoorCrCheck
namespace Go.Proofs.YtcljmmadimldlaaDoor
open Go.RowKit Go.Shelf Cr

def putE (l : List C) (col : Int) (t : ByteArray) : Nat := if colE l col ≠ 0 then colE l col else if chk t ≠ 0 then 3 else if (l.length : Int) < col + wd t then 12 else 0
def putL (l : List C) (col : Int) (t : ByteArray) (f b g : Int) : List C := if putE l col t ≠ 0 then [] else repl l col.toNat (col.toNat + (wd t).toNat) (cells t f b g)
theorem colE_zero {l : List C} {col : Int} (h : colE l col = 0) : ∃ k : Nat, col = (k : Int) ∧ k < l.length ∧ l.length ≤ 132 ∧ Pr l := by
  unfold colE at h
  split at h
  · cases h
  · split at h
    · cases h
    · rename_i h1 h2
      have h3 := check_zero.1 (show check l = 0 by omega)
      exact ⟨col.toNat, by omega, by omega, h3.2.1, h3.2.2⟩
theorem Rd.addr {w : World} {A : Option Addr} {n : Nat} {l : List C} (h : Rd w A n l) (h0 : 0 < n) : ∃ b off, A = some ⟨b, off, none⟩ := by
  have hl : 0 < l.length := by rw [h.1]; exact h0
  obtain ⟨b, off, e, _⟩ := h.2 0 l[0] (List.getElem?_eq_getElem hl)
  exact ⟨b, off, e⟩
theorem gives_nil {w w' : World} (hb : Below w.heap.size w w') : GivesC w w' none 0 0 [] := ⟨Rd.nil _ _, ⟨fun _ => ⟨rfl, rfl⟩, Nat.le_refl _⟩, hb⟩

set_option maxHeartbeats 4000000 in
set_option maxRecDepth 100000 in
theorem put_any (A : Option Addr) (n c : Nat) (l : List C) (col : Int) (t : ByteArray) (f b g : Int) (w : World) (hr : Rd w A n l) (hnc : n ≤ c) (hmax : n ≤ 9223372036854775807) (ht : ∀ x ∈ l, x.t.size ≤ 300) (hs : t.size ≤ 300) (hT : Lib.Utf8Tabs 0 1 w) :
    Calls Tryd.prog 21 #[.slice A n c, .int .i64 col, .string t, .agg #[.int .i64 f, .int .i64 b, .int .i64 g]] w fun e w' => ∃ A' n' c', e = .returned (.tuple #[.slice A' n' c', .int .i64 (putE l col t : Nat)]) ∧ GivesC w w' A' n' c' (putL l col t f b g) := by
  have hl : l.length = n := hr.1
  obtain ⟨W, hW⟩ : ∃ W, w.alloc (.cells #[.int .i64 f, .int .i64 b, .int .i64 g] 24) = W := ⟨_, rfl⟩
  have bW : Below w.heap.size w W := by rw [← hW]; exact (Below.refl _ _).alloc (Nat.le_refl _) _
  have hk : W.heap[w.heap.size]? = some (.cells #[.int .i64 f, .int .i64 b, .int .i64 g] 24) := by rw [← hW]; exact heap_alloc_new w _
  have CC := Lib.hid (checkColumn_any A n c l col W (hr.below bW) hnc hmax ht (Utf8Tabs_below hT bW))
  have HT := Lib.hid (fun W' (h : Below w.heap.size w W') => Utf8Tabs_below hT h)
  have HR := Lib.hid hr
  have HK := Lib.hid hk
  have HW := Lib.hid bW
  have HL := Lib.hid hl
  have keepK : ∀ (W1 W2 : World), W1.heap[w.heap.size]? = some (.cells #[.int .i64 f, .int .i64 b, .int .i64 g] 24) → Below W1.heap.size W1 W2 → W2.heap[w.heap.size]? = some (.cells #[.int .i64 f, .int .i64 b, .int .i64 g] 24)   := fun _ _ h1 h2 => (h2.block _ (Array.getElem?_eq_some_iff.1 h1).1).trans h1
  have HKK := Lib.hid keepK
  clear keepK hr hk bW hT
  by_cases hq : colE l col = 0
  · rw [hq] at CC
    obtain ⟨k, rfl, hkl, hl132, hP⟩ := colE_zero hq
    obtain ⟨ab, ao, rfl⟩ := HR.out.addr (by rw [← hl]; omega)
    have hE : putE l (k : Int) t = if chk t ≠ 0 then 3 else if (n : Int) < (k : Int) + wd t then 12 else 0 := by unfold putE; rw [if_neg (by omega), hl]
    have HP := Lib.hid hP
    obtain ⟨e0, he0⟩ : ∃ e0 : Nat, chk t = e0 := ⟨_, rfl⟩
    have CK := Lib.hid (fun W' hW' => check_any t W' hs hW')
    rw [show Cl.chk t.data.toList = e0 from he0] at CK
    have CO := Lib.hid (fun W' hW' => cellsOf_any t f b g W' hs hW')
    have hkz : (k : Int) < (n : Int) := by omega
    have hk0 : (0 : Int) ≤ (k : Int) := by omega
    have hn132 : (n : Int) ≤ 132 := by omega
    by_cases hc : e0 = 0
    · subst hc
      have hcl := cells_Pr he0 f b g
      obtain ⟨m, hm⟩ : ∃ m, (cells t f b g).length = m := ⟨_, rfl⟩
      rw [hm] at hcl
      have hm2 : m = 1 ∨ m = 2 := by rcases wd_ok he0 with h | h <;> omega
      rw [if_neg (by omega), ← hcl.2] at hE
      have hLp : putE l (k : Int) t = 0 → putL l (k : Int) t f b g = repl l k (k + m) (cells t f b g) := fun h => by
        unfold putL
        rw [if_neg (by omega), ← hcl.2, Int.toNat_natCast, Int.toNat_natCast]
      have HLP := Lib.hid hLp
      have HM := Lib.hid hm
      have HE := Lib.hid hE
      have hmz : (k : Int) + (m : Int) ≤ 134 := by omega
      clear hLp hE hcl hm he0 hq
      by_cases hover : n < k + m
      · have hoz : (n : Int) < (k : Int) + (m : Int) := by omega
        have e12 : putE l (k : Int) t = 12 := by rw [HE.out, if_pos hoz]
        have L12 : putL l (k : Int) t f b g = [] := by unfold putL; rw [e12]; rfl
        rw [e12, L12]
        clear e12 L12
        go_enter Tryd.func21, Tryd.ntmps21
        go_wp2_with fail
        refine CC.out.mono ?_
        rintro e w1 ⟨rfl, b1⟩
        have B1 := Lib.hid (HW.out.trans (b1.mono HW.out.size))
        have K1 := Lib.hid (HKK.out _ _ HK.out b1)
        clear b1 CC
        go_wp2_with fail
        refine (CK.out _ (HT.out _ B1.out)).mono ?_
        rintro e w2 ⟨rfl, b2⟩
        have B2 := Lib.hid (B1.out.trans (b2.mono B1.out.size))
        have hK2 := HKK.out _ _ K1.out b2
        have p0 := cell_of_row w2 _ 0 _ _ _ hK2
        have p1 := cell_of_row w2 _ 1 _ _ _ hK2
        have p2 := cell_of_row w2 _ 2 _ _ _ hK2
        clear b2 CK K1 B1 hK2
        go_wp2_with fail
        refine (CO.out _ (HT.out _ B2.out)).mono ?_
        rintro e w3 ⟨A3, m3, c3, rfl, g3⟩
        have hm3 : m3 = m := by rw [← HM.out]; exact g3.1.1.symm
        subst hm3
        have B3 := Lib.hid (B2.out.trans (g3.2.2.mono B2.out.size))
        clear g3 p0 p1 p2
        go_wp2
        go_ret2
        exact ⟨_, _, _, rfl, gives_nil B3.out⟩
      · have hoz : ¬ (n : Int) < (k : Int) + (m : Int) := by omega
        have e12 : putE l (k : Int) t = 0 := by rw [HE.out, if_neg hoz]
        have L12 := HLP.out e12
        rw [e12, L12]
        have CR := Lib.hid (fun (A3 : Option Addr) (c3 : Nat) (W' : World) (h1 : Rd W' (some ⟨ab, ao, none⟩) n l) (h2 : Rd W' A3 m (cells t f b g)) (h3 : A3 = none → m = 0 ∧ c3 = 0) => replace_any ab ao n c l (by omega) HP.out k (k + m) (by omega) (by omega) A3 m c3 (cells t f b g) (by omega) W' h1 h2 h3)
        have hcast : ((k + m : Nat) : Int) = (k : Int) + (m : Int) := by omega
        rw [hcast] at CR
        clear e12 L12 hcast
        go_enter Tryd.func21, Tryd.ntmps21
        go_wp2_with fail
        refine CC.out.mono ?_
        rintro e w1 ⟨rfl, b1⟩
        have B1 := Lib.hid (HW.out.trans (b1.mono HW.out.size))
        have K1 := Lib.hid (HKK.out _ _ HK.out b1)
        clear b1 CC
        go_wp2_with fail
        refine (CK.out _ (HT.out _ B1.out)).mono ?_
        rintro e w2 ⟨rfl, b2⟩
        have B2 := Lib.hid (B1.out.trans (b2.mono B1.out.size))
        have hK2 := HKK.out _ _ K1.out b2
        have p0 := cell_of_row w2 _ 0 _ _ _ hK2
        have p1 := cell_of_row w2 _ 1 _ _ _ hK2
        have p2 := cell_of_row w2 _ 2 _ _ _ hK2
        clear b2 CK K1 B1 hK2
        go_wp2_with fail
        refine (CO.out _ (HT.out _ B2.out)).mono ?_
        rintro e w3 ⟨A3, m3, c3, rfl, g3⟩
        have hm3 : m3 = m := by rw [← HM.out]; exact g3.1.1.symm
        subst hm3
        have B3 := Lib.hid (B2.out.trans (g3.2.2.mono B2.out.size))
        have G3 := Lib.hid g3
        clear g3 p0 p1 p2
        go_wp2_with fail
        refine (CR.out A3 c3 w3 (HR.out.below B3.out) G3.out.1 G3.out.2.1.1).mono ?_
        rintro e w4 ⟨A4, n4, c4, rfl, g4⟩
        have G4 := Lib.hid (g4.rebase B3.out)
        clear g4 CR
        go_wp2
        go_ret2
        exact ⟨_, _, _, rfl, G4.out⟩
    · have hcb : (((e0 : Nat) : Int) != 0) = true := nat_ne hc
      have e12 : putE l (k : Int) t = 3 := by rw [hE, if_pos (by omega)]
      have L12 : putL l (k : Int) t f b g = [] := by unfold putL; rw [e12]; rfl
      rw [e12, L12]
      clear e12 L12 hE he0
      go_enter Tryd.func21, Tryd.ntmps21
      go_wp2_with fail
      refine CC.out.mono ?_
      rintro e w1 ⟨rfl, b1⟩
      have B1 := Lib.hid (HW.out.trans (b1.mono HW.out.size))
      clear b1 CC
      go_wp2_with fail
      refine (CK.out _ (HT.out _ B1.out)).mono ?_
      rintro e w2 ⟨rfl, b2⟩
      have B2 := Lib.hid (B1.out.trans (b2.mono B1.out.size))
      clear b2 CK
      go_wp2
      go_ret2
      exact ⟨_, _, _, rfl, gives_nil B2.out⟩
  · have e12 : putE l col t = colE l col := by unfold putE; rw [if_pos hq]
    have L12 : putL l col t f b g = [] := by unfold putL; rw [e12, if_pos hq]
    rw [e12, L12]
    clear e12 L12
    obtain ⟨q, hqq⟩ : ∃ q, colE l col = q := ⟨_, rfl⟩
    rw [hqq] at CC hq ⊢
    clear hqq
    have hqb : (((q : Nat) : Int) != 0) = true := nat_ne hq
    go_enter Tryd.func21, Tryd.ntmps21
    go_wp2_with fail
    refine CC.out.mono ?_
    rintro e w1 ⟨rfl, b1⟩
    have B1 := Lib.hid (HW.out.trans (b1.mono HW.out.size))
    clear b1 CC
    go_wp2
    go_ret2
    exact ⟨_, _, _, rfl, gives_nil B1.out⟩

end Go.Proofs.YtcljmmadimldlaaDoor
