/-
  The examples of the chapter hold: the function awake of layer 7's statements returns true.
-/
import Derived.Test.YtcljmmadimldlaaDoorCrFit
namespace Go.Proofs.YtcljmmadimldlaaDoor
open Go.RowKit Go.Shelf Cr

theorem ok_of (t : ByteArray) (r : Int) (h1 : t.data.toList = U8.encL [r]) (h2 : Cl.isBase r = true) : chk t = 0 ∧ wd t = Cl.widthOf [r] := by
  have h := Cl.good_parts (Cl.Good.one h2)
  unfold chk wd
  rw [h1]
  exact ⟨h.1, h.2.2.2⟩
def lt (k : Nat) : ByteArray := ⟨#[UInt8.ofNat (97 + k)]⟩
def han : ByteArray := ⟨#[230, 188, 162]⟩
def ex : ByteArray := ⟨#[120]⟩
theorem lt_ok : ∀ k, k < 4 → chk (lt k) = 0 ∧ wd (lt k) = 1 := by
  intro k hk
  match k, hk with
  | 0, _ => exact ok_of _ 97 (by decide) (by decide)
  | 1, _ => exact ok_of _ 98 (by decide) (by decide)
  | 2, _ => exact ok_of _ 99 (by decide) (by decide)
  | 3, _ => exact ok_of _ 100 (by decide) (by decide)
theorem han_ok : chk han = 0 ∧ wd han = 2 := ok_of _ 28450 (by decide) (by decide)
theorem ex_ok : chk ex = 0 ∧ wd ex = 1 := ok_of _ 120 (by decide) (by decide)
def pl (t : ByteArray) (x : Int) : C := ⟨t, x, -1, -1, 0⟩
def rw' (k : Nat) : List C := (List.range k).map (fun i => pl (lt i) 1) ++ blanks (4 - k) (-1)
theorem pl_narrow {t : ByteArray} (h : chk t = 0 ∧ wd t = 1) : Narrow (pl t 1) := ⟨rfl, h.1, h.2⟩
theorem rw_Pr : ∀ k, k ≤ 4 → Pr (rw' k) := by
  intro k hk
  refine Pr.app ?_ (Pr.blanks _ _)
  have hgen : ∀ (l : List Nat), (∀ i ∈ l, i < 4) → Pr (l.map (fun i => pl (lt i) 1)) := by
    intro l hl
    induction l with
    | nil => exact .nil
    | cons i l ih => exact .one (pl_narrow (lt_ok i (hl i (by simp)))) (ih (fun j hj => hl j (by simp [hj])))
  exact hgen _ (fun i hi => by have := List.mem_range.1 hi; omega)
theorem rw_len : ∀ k, k ≤ 4 → (rw' k).length = 4 := by
  intro k hk
  simp [rw', blanks]
  omega
theorem put_good {l : List C} (hP : Pr l) (h1 : 1 ≤ l.length) (h2 : l.length ≤ 132) (k : Nat) {t : ByteArray} {m : Nat} (ht : chk t = 0) (hw : wd t = (m : Int)) (hk : k + m ≤ l.length) (hk2 : k < l.length) (f b g : Int) :
    putE l (k : Int) t = 0 ∧ putL l (k : Int) t f b g = repl l k (k + m) (cells t f b g) := by
  have hc : colE l (k : Int) = 0 := by unfold colE; rw [if_neg (by rw [check_good hP h1 h2]; simp), if_neg (by omega)]
  have hE : putE l (k : Int) t = 0 := by unfold putE; rw [if_neg (by omega), if_neg (by omega), if_neg (by omega)]
  refine ⟨hE, ?_⟩
  unfold putL
  rw [if_neg (by omega), hw, Int.toNat_natCast, Int.toNat_natCast]
theorem put_rw : ∀ k, k < 4 → putE (rw' k) (k : Int) (lt k) = 0 ∧ putL (rw' k) (k : Int) (lt k) (-1) (-1) 0 = rw' (k + 1) := by
  intro k hk
  have h := put_good (rw_Pr k (by omega)) (by rw [rw_len k (by omega)]; decide) (by rw [rw_len k (by omega)]; decide) k (m := 1) (lt_ok k hk).1 (lt_ok k hk).2 (by rw [rw_len k (by omega)]; omega) (by rw [rw_len k (by omega)]; omega) (-1) (-1) 0
  refine ⟨h.1, h.2.trans ?_⟩
  have e : cells (lt k) (-1) (-1) 0 = [pl (lt k) 1] := by unfold cells; rw [(lt_ok k hk).2]; rfl
  rw [e]
  match k, hk with
  | 0, _ => decide
  | 1, _ => decide
  | 2, _ => decide
  | 3, _ => decide
def rowM : List C := [pl (lt 0) 1, pl han 2, pl ⟨#[]⟩ 0, pl (lt 3) 1]
def rowN : List C := [pl (lt 0) 1, Cr.blank (-1), pl ex 1, pl (lt 3) 1]
def rowO : List C := [Cr.blank (-1), pl (lt 0) 1, pl (lt 1) 1, pl (lt 2) 1]
theorem rowM_Pr : Pr rowM := .one (pl_narrow (lt_ok 0 (by decide))) (.pair (c := pl han 2) ⟨rfl, han_ok.1, han_ok.2⟩ (.one (pl_narrow (lt_ok 3 (by decide))) .nil))
theorem put_m : putE (rw' 4) 1 han = 0 ∧ putL (rw' 4) 1 han (-1) (-1) 0 = rowM := by
  have h := put_good (rw_Pr 4 (by decide)) (by decide) (by decide) 1 (m := 2) han_ok.1 han_ok.2 (by decide) (by decide) (-1) (-1) 0
  refine ⟨h.1, h.2.trans ?_⟩
  have e : cells han (-1) (-1) 0 = [pl han 2, pl ⟨#[]⟩ 0] := by unfold cells; rw [han_ok.2]; rfl
  rw [e]
  decide
theorem put_n : putE rowM 2 ex = 0 ∧ putL rowM 2 ex (-1) (-1) 0 = rowN := by
  have h := put_good rowM_Pr (by decide) (by decide) 2 (m := 1) ex_ok.1 ex_ok.2 (by decide) (by decide) (-1) (-1) 0
  refine ⟨h.1, h.2.trans ?_⟩
  have e : cells ex (-1) (-1) 0 = [pl ex 1] := by unfold cells; rw [ex_ok.2]; rfl
  rw [e]
  decide
theorem ins_o : colE (rw' 4) 0 = 0 ∧ insL (rw' 4) 0 1 (-1) = rowO := by
  have hc : colE (rw' 4) 0 = 0 := by unfold colE; rw [if_neg (by rw [check_good (rw_Pr 4 (by decide)) (by decide) (by decide)]; simp), if_neg (by decide)]
  refine ⟨hc, ?_⟩
  unfold insL
  rw [if_neg (by omega), if_neg (by decide)]
  decide
theorem small_rw : ∀ k, k ≤ 4 → ∀ x ∈ rw' k, x.t.size ≤ 300 := by
  intro k hk
  match k, hk with
  | 0, _ => decide
  | 1, _ => decide
  | 2, _ => decide
  | 3, _ => decide
  | 4, _ => decide

/-- What the examples have made so far. -/
def Aw (w wr : World) (p : Nat) (A : Option Addr) (n c : Nat) (l : List C) : Prop :=
  wr.heap[w.heap.size]? = some (.cells #[.int .i64 (-1), .int .i64 (-1), .int .i64 0] 24) ∧ wr.heap[p]? = some (.cells #[.string ⟨#[97]⟩, .string ⟨#[98]⟩, .string ⟨#[99]⟩, .string ⟨#[100]⟩] 9) ∧ Rd wr A n l ∧ n ≤ c ∧ Below w.heap.size w wr

set_option maxHeartbeats 4000000 in
set_option maxRecDepth 100000 in
theorem awake_true (w : World) (hT : Lib.Utf8Tabs 0 1 w) : Calls Tryd.prog 13 #[] w fun e w' => e = .returned (.bool true) ∧ Below w.heap.size w w' := by
  obtain ⟨W, hW⟩ : ∃ W, w.alloc (.cells #[.int .i64 (-1), .int .i64 (-1), .int .i64 0] 24) = W := ⟨_, rfl⟩
  have bW : Below w.heap.size w W := by rw [← hW]; exact (Below.refl _ _).alloc (Nat.le_refl _) _
  have hk : W.heap[w.heap.size]? = some (.cells #[.int .i64 (-1), .int .i64 (-1), .int .i64 0] 24) := by rw [← hW]; exact heap_alloc_new w _
  have HT := Lib.hid (fun W' (h : Below w.heap.size w W') => Utf8Tabs_below hT h)
  have HW := Lib.hid bW
  have HK := Lib.hid hk
  have CB := Lib.hid (blankRow_any 4 (-1) (-1) 0 W)
  have e0 : (if (1 : Int) ≤ 4 ∧ (4 : Int) ≤ 132 then blanks (4 : Int).toNat (-1) else []) = rw' 0 := by decide
  rw [e0] at CB
  clear hT bW hk e0
  subst hW
  go_enter Tryd.func13, Tryd.ntmps13
  go_wp2_with fail
  refine CB.out.mono ?_
  rintro e w1 ⟨A1, n1, c1, rfl, g1⟩
  have HA1 : Hid (Aw w (w1.alloc (.cells #[.string ⟨#[97]⟩, .string ⟨#[98]⟩, .string ⟨#[99]⟩, .string ⟨#[100]⟩] 9)) w1.heap.size A1 n1 c1 (rw' 0)) := Lib.hid (by
    have bA := (Below.refl w1.heap.size w1).alloc (Nat.le_refl _) (.cells #[.string ⟨#[97]⟩, .string ⟨#[98]⟩, .string ⟨#[99]⟩, .string ⟨#[100]⟩] 9)
    have hk1 := (g1.2.2.block _ (Array.getElem?_eq_some_iff.1 HK.out).1).trans HK.out
    refine ⟨(bA.block _ (Array.getElem?_eq_some_iff.1 hk1).1).trans hk1, heap_alloc_new w1 _, g1.1.below bA, g1.2.1.2, ?_⟩
    have b1 := HW.out.trans (g1.2.2.mono HW.out.size)
    exact b1.alloc b1.size _)
  clear g1 CB HK
  go_wp2
  go_loopg [2, 3, 4, 5, 17] 5 (fun gk v2 v3 _ _ v17 wr => ∃ k : Nat, gk + k = 5 ∧ k ≤ 4 ∧ v17 = .int .i64 (k : Int) ∧ v3 = .int .i64 0 ∧ ∃ A n c, v2 = .slice A n c ∧ Aside (Aw w wr w1.heap.size A n c (rw' k)))
  case atStart => exact ⟨0, rfl, by decide, rfl, rfl, _, _, _, rfl, HA1.out⟩
  case round =>
    obtain ⟨k, hg, hk4, rfl, rfl, A, n, c, rfl, hA⟩ := hrel
    have hn4 : n = 4 := by rw [← hA.out.2.2.1.1]; exact rw_len k hk4
    subst hn4
    have a0 := cell_of_row wr _ 0 _ _ _ hA.out.1
    have a1 := cell_of_row wr _ 1 _ _ _ hA.out.1
    have a2 := cell_of_row wr _ 2 _ _ _ hA.out.1
    by_cases hlt : k < 4
    · obtain ⟨g', rfl⟩ : ∃ g', gk = g' + 1 := ⟨gk - 1, by omega⟩
      have hz : (k : Int) < 4 := by omega
      have hz0 : (0 : Int) ≤ (k : Int) := by omega
      have hs : wr.cell? ⟨w1.heap.size, k, none⟩ = some (.string (lt k)) := by
        match k, hlt with
        | 0, _ => exact cell_of_row wr _ 0 _ _ _ hA.out.2.1
        | 1, _ => exact cell_of_row wr _ 1 _ _ _ hA.out.2.1
        | 2, _ => exact cell_of_row wr _ 2 _ _ _ hA.out.2.1
        | 3, _ => exact cell_of_row wr _ 3 _ _ _ hA.out.2.1
      obtain ⟨t, ht⟩ : ∃ t, lt k = t := ⟨_, rfl⟩
      have htl : (lt k).size ≤ 300 := by show 1 ≤ 300; decide
      have CP := Lib.hid (put_any A 4 c (rw' k) (k : Int) (lt k) (-1) (-1) 0 wr hA.out.2.2.1 hA.out.2.2.2.1 (by decide) (small_rw k hk4) htl (HT.out wr hA.out.2.2.2.2))
      rw [(put_rw k hlt).1, (put_rw k hlt).2] at CP
      rw [ht] at CP hs
      clear ht htl
      go_wp2_with fail
      refine CP.out.mono ?_
      rintro e w2 ⟨A2, n2, c2, rfl, g2⟩
      have HA2 : Hid (Aw w w2 w1.heap.size A2 n2 c2 (rw' (k + 1))) := Lib.hid ⟨(g2.2.2.block _ (Array.getElem?_eq_some_iff.1 hA.out.1).1).trans hA.out.1, (g2.2.2.block _ (Array.getElem?_eq_some_iff.1 hA.out.2.1).1).trans hA.out.2.1, g2.1, g2.2.1.2, hA.out.2.2.2.2.trans (g2.2.2.mono hA.out.2.2.2.2.size)⟩
      clear g2 CP hs a0 a1 a2
      go_wp2
      go_roundg g'
      case measure => omega
      case rel => exact ⟨k + 1, by omega, by omega, by go_num, rfl, _, _, _, rfl, HA2.out⟩
    · have hk : k = 4 := by omega
      subst hk
      have CT := Lib.hid (text_any A 4 c (rw' 4) (by decide) (small_rw 4 (by decide)) wr hA.out.2.2.1)
      have et : (⟨(text (rw' 4)).toArray⟩ : ByteArray) = ⟨#[97, 98, 99, 100]⟩ := by decide
      rw [et] at CT
      have HA := Lib.hid hA.out
      clear et hA a0 a1 a2
      go_wp2_with fail
      refine CT.out.mono ?_
      rintro e w2 ⟨rfl, b2⟩
      have B2 := Lib.hid (HA.out.2.2.2.2.trans (b2.mono HA.out.2.2.2.2.size))
      have R2 := Lib.hid (HA.out.2.2.1.below b2)
      have hk2 := (b2.block _ (Array.getElem?_eq_some_iff.1 HA.out.1).1).trans HA.out.1
      have K2 := Lib.hid hk2
      have a0 := cell_of_row w2 _ 0 _ _ _ hk2
      have a1 := cell_of_row w2 _ 1 _ _ _ hk2
      have a2 := cell_of_row w2 _ 2 _ _ _ hk2
      have CP := Lib.hid (put_any A 4 c (rw' 4) 1 han (-1) (-1) 0 w2 R2.out HA.out.2.2.2.1 (by decide) (small_rw 4 (by decide)) (by decide) (HT.out w2 B2.out))
      rw [put_m.1, put_m.2] at CP
      clear b2 CT hk2
      go_wp2_with fail
      refine CP.out.mono ?_
      rintro e w3 ⟨A3, n3, c3, rfl, g3⟩
      have hn3 : n3 = 4 := g3.1.1.symm
      subst hn3
      have B3 := Lib.hid (B2.out.trans (g3.2.2.mono B2.out.size))
      have R3 := Lib.hid (R2.out.below g3.2.2)
      have hk3 := (g3.2.2.block _ (Array.getElem?_eq_some_iff.1 K2.out).1).trans K2.out
      have K3 := Lib.hid hk3
      have b0 := cell_of_row w3 _ 0 _ _ _ hk3
      have b1 := cell_of_row w3 _ 1 _ _ _ hk3
      have b2 := cell_of_row w3 _ 2 _ _ _ hk3
      have G3 := Lib.hid g3
      have CQ := Lib.hid (put_any A3 4 c3 rowM 2 ex (-1) (-1) 0 w3 g3.1 g3.2.1.2 (by decide) (by decide) (by decide) (HT.out w3 B3.out))
      rw [put_n.1, put_n.2] at CQ
      clear g3 CP hk3 a0 a1 a2
      go_wp2_with fail
      refine CQ.out.mono ?_
      rintro e w4 ⟨A4, n4, c4, rfl, g4⟩
      have hn4 : n4 = 4 := g4.1.1.symm
      subst hn4
      have B4 := Lib.hid (B3.out.trans (g4.2.2.mono B3.out.size))
      have R4 := Lib.hid (R3.out.below g4.2.2)
      have M4 := Lib.hid (G3.out.1.below g4.2.2)
      have hk4 := (g4.2.2.block _ (Array.getElem?_eq_some_iff.1 K3.out).1).trans K3.out
      have d0 := cell_of_row w4 _ 0 _ _ _ hk4
      have d1 := cell_of_row w4 _ 1 _ _ _ hk4
      have d2 := cell_of_row w4 _ 2 _ _ _ hk4
      have G4 := Lib.hid g4
      have CN := Lib.hid (insert_any A 4 c (rw' 4) 0 1 (-1) (-1) 0 w4 R4.out HA.out.2.2.2.1 (by decide) (small_rw 4 (by decide)) (HT.out w4 B4.out))
      rw [ins_o.1, ins_o.2] at CN
      clear g4 CQ hk4 b0 b1 b2
      go_wp2_with fail
      refine CN.out.mono ?_
      rintro e w5 ⟨A5, n5, c5, rfl, g5⟩
      have hn5 : n5 = 4 := g5.1.1.symm
      subst hn5
      have B5 := Lib.hid (B4.out.trans (g5.2.2.mono B4.out.size))
      have M5 := Lib.hid (M4.out.below g5.2.2)
      have N5 := Lib.hid (G4.out.1.below g5.2.2)
      have O5 := Lib.hid g5.1
      have T1 := Lib.hid (text_any A3 4 c3 rowM (by decide) (by decide) w5 M5.out)
      rw [show (⟨(text rowM).toArray⟩ : ByteArray) = ⟨#[97, 230, 188, 162, 100]⟩ from by decide] at T1
      clear g5 CN d0 d1 d2
      go_wp2_with fail
      refine T1.out.mono ?_
      rintro e w6 ⟨rfl, b6⟩
      have B6 := Lib.hid (B5.out.trans (b6.mono B5.out.size))
      have O6 := Lib.hid (O5.out.below b6)
      have T2 := Lib.hid (text_any A4 4 c4 rowN (by decide) (by decide) w6 (N5.out.below b6))
      rw [show (⟨(text rowN).toArray⟩ : ByteArray) = ⟨#[97, 32, 120, 100]⟩ from by decide] at T2
      clear b6 T1
      go_wp2_with fail
      refine T2.out.mono ?_
      rintro e w7 ⟨rfl, b7⟩
      have B7 := Lib.hid (B6.out.trans (b7.mono B6.out.size))
      have T3 := Lib.hid (text_any A5 4 c5 rowO (by decide) (by decide) w7 (O6.out.below b7))
      rw [show (⟨(text rowO).toArray⟩ : ByteArray) = ⟨#[32, 97, 98, 99]⟩ from by decide] at T3
      clear b7 T2
      go_wp2_with fail
      refine T3.out.mono ?_
      rintro e w8 ⟨rfl, b8⟩
      have B8 := Lib.hid (B7.out.trans (b8.mono B7.out.size))
      clear b8 T3
      go_wp2
      go_ret
      exact ⟨rfl, B8.out⟩

end Go.Proofs.YtcljmmadimldlaaDoor
