/-
  The examples of the chapter hold: the function awake of layer 8's statements returns true.
-/
import Derived.Test.YtokeaoapcjlmkaaDoorGrColumn
import Derived.Test.YtokeaoapcjlmkaaDoorGrScroll
import Derived.Test.YtokeaoapcjlmkaaDoorGrSame
namespace Go.Proofs.YtokeaoapcjlmkaaDoor
open Go.RowKit Go.Shelf Cr Gd

def rowsABC : List (List C) := [[pl ⟨#[97]⟩ 1], [pl ⟨#[98]⟩ 1], [pl ⟨#[99]⟩ 1]]
def rowsBC : List (List C) := [[pl ⟨#[98]⟩ 1], [pl ⟨#[99]⟩ 1], [pl ⟨#[32]⟩ 1]]
def rowsAB : List (List C) := [[pl ⟨#[97]⟩ 1], [pl ⟨#[32]⟩ 1], [pl ⟨#[98]⟩ 1]]
def rowsA : List (List C) := [[pl ⟨#[97]⟩ 1]]
theorem col_abc : colL ⟨#[97, 98, 99]⟩ 3 = rowsABC := by decide
theorem col_bc : colL ⟨#[98, 99, 32]⟩ 3 = rowsBC := by decide
theorem col_ab : colL ⟨#[97, 32, 98]⟩ 3 = rowsAB := by decide
theorem col_a : colL ⟨#[97]⟩ 1 = rowsA := by decide
theorem l_ok {t : ByteArray} {r : Int} (h1 : t.data.toList = U8.encL [r]) (h2 : Cl.isBase r = true) (h3 : Cl.widthOf [r] = 1) : Pr [pl t 1] := .one (pl_narrow ⟨(ok_of t r h1 h2).1, (ok_of t r h1 h2).2.trans h3⟩) .nil
theorem abc_good : Gd.Good 1 3 rowsABC := by
  refine ⟨by decide, by decide, by decide, by decide, rfl, fun l hl => ?_⟩
  simp only [rowsABC, List.mem_cons, List.not_mem_nil, or_false] at hl
  rcases hl with rfl | rfl | rfl
  · exact ⟨rfl, l_ok (r := 97) (by decide) (by decide) (by decide)⟩
  · exact ⟨rfl, l_ok (r := 98) (by decide) (by decide) (by decide)⟩
  · exact ⟨rfl, l_ok (r := 99) (by decide) (by decide) (by decide)⟩
theorem abc_gE : gE 1 3 rowsABC = 0 := good_gE abc_good
theorem abc_up : scrollR 1 3 rowsABC 0 3 1 (-1) = ⟨0, 1, 3, rowsBC, rowsA⟩ := by
  unfold scrollR
  rw [if_neg (by rw [abc_gE]; decide), if_neg (by decide)]
  have h1 : scr rowsABC (0 : Int).toNat (3 : Int).toNat (max (lim 0 3 1) 0).toNat (max (-(lim 0 3 1)) 0).toNat (blanks (1 : Int).toNat (-1)) = rowsBC := by decide
  have h2 : out rowsABC (0 : Int).toNat (max (lim 0 3 1) 0).toNat = rowsA := by decide
  rw [h1, h2]
theorem abc_down : scrollR 1 3 rowsABC 1 3 (-1) (-1) = ⟨0, 1, 3, rowsAB, []⟩ := by
  unfold scrollR
  rw [if_neg (by rw [abc_gE]; decide), if_neg (by decide)]
  have h1 : scr rowsABC (1 : Int).toNat (3 : Int).toNat (max (lim 1 3 (-1)) 0).toNat (max (-(lim 1 3 (-1))) 0).toNat (blanks (1 : Int).toNat (-1)) = rowsAB := by decide
  have h2 : out rowsABC (1 : Int).toNat (max (lim 1 3 (-1)) 0).toNat = [] := by decide
  rw [h1, h2]
theorem abc_sm : SmR rowsABC := by
  intro l hl x hx
  simp only [rowsABC, List.mem_cons, List.not_mem_nil, or_false] at hl
  rcases hl with rfl | rfl | rfl <;> (simp only [List.mem_cons, List.not_mem_nil, or_false] at hx; subst hx; decide)
theorem sz_of {L : List (List C)} (h : ∀ l ∈ L, l.length ≤ 1) : Sz L := fun l hl => by have := h l hl; omega
theorem bc_sz : Sz rowsBC := sz_of (by decide)
theorem ab_sz : Sz rowsAB := sz_of (by decide)
theorem a_sz : Sz rowsA := sz_of (by decide)

theorem colABC (W : World) : Calls Tryd.prog 31 #[.string ⟨#[97, 98, 99]⟩] W fun e w' => ∃ A c, e = .returned (.agg #[.int .i64 1, .int .i64 3, .slice A 3 c]) ∧ Gv W w' A 3 c rowsABC ∧ Below W.heap.size W w' := by
  have h := column_any ⟨#[97, 98, 99]⟩ 3 rfl (by decide) (by decide) W
  rw [col_abc] at h
  exact h
theorem colBC (W : World) : Calls Tryd.prog 31 #[.string ⟨#[98, 99, 32]⟩] W fun e w' => ∃ A c, e = .returned (.agg #[.int .i64 1, .int .i64 3, .slice A 3 c]) ∧ Gv W w' A 3 c rowsBC ∧ Below W.heap.size W w' := by
  have h := column_any ⟨#[98, 99, 32]⟩ 3 rfl (by decide) (by decide) W
  rw [col_bc] at h
  exact h
theorem colAB (W : World) : Calls Tryd.prog 31 #[.string ⟨#[97, 32, 98]⟩] W fun e w' => ∃ A c, e = .returned (.agg #[.int .i64 1, .int .i64 3, .slice A 3 c]) ∧ Gv W w' A 3 c rowsAB ∧ Below W.heap.size W w' := by
  have h := column_any ⟨#[97, 32, 98]⟩ 3 rfl (by decide) (by decide) W
  rw [col_ab] at h
  exact h
theorem colA (W : World) : Calls Tryd.prog 31 #[.string ⟨#[97]⟩] W fun e w' => ∃ A c, e = .returned (.agg #[.int .i64 1, .int .i64 1, .slice A 1 c]) ∧ Gv W w' A 1 c rowsA ∧ Below W.heap.size W w' := by
  have h := column_any ⟨#[97]⟩ 1 rfl (by decide) (by decide) W
  rw [col_a] at h
  exact h
theorem field_rows (x y z : Value) (W : World) : (Instr.field 24 (.agg #[x, y, z]) 2).run Tryd.prog W = .ok z W := by kernel_rfl

set_option maxHeartbeats 4000000 in
set_option maxRecDepth 100000 in
theorem awake_true (w : World) (hT : Lib.Utf8Tabs 0 1 w) : Calls Tryd.prog 12 #[] w fun e w' => e = .returned (.bool true) ∧ Below w.heap.size w w' := by
  have HT := Lib.hid (fun U (h : Below w.heap.size w U) => Utf8Tabs_below hT h)
  clear hT
  go_enter Tryd.func12, Tryd.ntmps12
  go_wp2_with fail
  refine (colABC _).mono ?_
  rintro e w1 ⟨A1, c1, rfl, g1, b1⟩
  -- the grid and the rendition are laid
  obtain ⟨V, hV⟩ : ∃ V, (w1.alloc (.cells #[.int .i64 1, .int .i64 3, .slice A1 3 c1] 24)).alloc (.cells #[.int .i64 (-1), .int .i64 (-1), .int .i64 0] 34) = V := ⟨_, rfl⟩
  have hall : Kg V w1.heap.size 1 3 A1 3 c1 ∧ V.heap[w1.heap.size + 1]? = some (.cells #[.int .i64 (-1), .int .i64 (-1), .int .i64 0] 34) ∧ Below w1.heap.size w1 V := by
    subst hV
    have h1 := Kg.new w1 1 3 A1 3 c1
    have bb := (Below.refl w1.heap.size w1).alloc (Nat.le_refl _) (.cells #[.int .i64 1, .int .i64 3, .slice A1 3 c1] 24)
    have e1 : (w1.alloc (.cells #[.int .i64 1, .int .i64 3, .slice A1 3 c1] 24)).heap.size = w1.heap.size + 1 := by simp
    generalize w1.alloc (.cells #[.int .i64 1, .int .i64 3, .slice A1 3 c1] 24) = u at h1 bb e1 ⊢
    have h2 := heap_alloc_new u (.cells #[.int .i64 (-1), .int .i64 (-1), .int .i64 0] 34)
    have b2 := (Below.refl u.heap.size u).alloc (Nat.le_refl _) (.cells #[.int .i64 (-1), .int .i64 (-1), .int .i64 0] 34)
    rw [e1] at h2
    exact ⟨h1.below b2, h2, bb.trans (b2.mono bb.size)⟩
  obtain ⟨kV, aV, bV⟩ := hall
  have BV := Lib.hid (b1.trans (bV.mono b1.size))
  have KV := Lib.hid kV
  have AV := Lib.hid (fun U (h : Below V.heap.size V U) => (h.block _ (Array.getElem?_eq_some_iff.1 aV).1).trans aV)
  have R1 := Lib.hid (g1.1.below bV)
  have N1 := Lib.hid g1.2.1
  have CU := Lib.hid (fun U (h : Below V.heap.size V U) => gscroll_any 1 3 A1 3 c1 rowsABC 0 3 1 (-1) (-1) 0 U (R1.out.below h) N1.out.2 (by decide) abc_sm (HT.out U (BV.out.trans (h.mono BV.out.size))))
  have CD := Lib.hid (fun U (h : Below V.heap.size V U) => gscroll_any 1 3 A1 3 c1 rowsABC 1 3 (-1) (-1) (-1) 0 U (R1.out.below h) N1.out.2 (by decide) abc_sm (HT.out U (BV.out.trans (h.mono BV.out.size))))
  rw [abc_up] at CU
  rw [abc_down] at CD
  have CU1 := Lib.hid (CU.out V (Below.refl _ _))
  clear g1 b1 kV aV bV CU
  subst hV
  go_wp2_with fail
  refine CU1.out.mono ?_
  rintro e w2 ⟨A2, n2, c2, A3, n3, c3, rfl, g2, g3, b2⟩
  have hn2 : n2 = 3 := g2.1.1.symm
  have hn3 : n3 = 1 := g3.1.1.symm
  subst hn2 hn3
  have bX := (Below.refl w2.heap.size w2).alloc (Nat.le_refl _) (.cells #[.int .i64 1, .int .i64 3, .slice A2 3 c2] 24)
  have B2 := Lib.hid (b2.trans (bX.mono b2.size))
  have K2 := Lib.hid (Kg.new w2 1 3 A2 3 c2)
  have G2 := Lib.hid (g2.below bX)
  have G3 := Lib.hid (g3.below bX)
  have p0 := (KV.out.below B2.out).c0
  have p1 := (KV.out.below B2.out).c1
  have p2 := (KV.out.below B2.out).c2
  have a0 := cell_of_row _ _ 0 _ _ _ (AV.out _ B2.out)
  have a1 := cell_of_row _ _ 1 _ _ _ (AV.out _ B2.out)
  have a2 := cell_of_row _ _ 2 _ _ _ (AV.out _ B2.out)
  have CD1 := Lib.hid (CD.out _ B2.out)
  clear g2 g3 b2 bX CU1 CD
  go_wp2_with fail
  refine CD1.out.mono ?_
  rintro e w3 ⟨A4, n4, c4, A5, n5, c5, rfl, g4, g5, b4⟩
  have hn4 : n4 = 3 := g4.1.1.symm
  have hn5 : n5 = 0 := g5.1.1.symm
  subst hn4 hn5
  have bX := (Below.refl w3.heap.size w3).alloc (Nat.le_refl _) (.cells #[.int .i64 1, .int .i64 3, .slice A4 3 c4] 24)
  obtain ⟨Y, hY⟩ : ∃ Y, w3.alloc (.cells #[.int .i64 1, .int .i64 3, .slice A4 3 c4] 24) = Y := ⟨_, rfl⟩
  have b3Y := b4.trans (bX.mono b4.size)
  have hk4 := Kg.new w3 1 3 A4 3 c4
  rw [hY] at bX b3Y hk4
  have BY := Lib.hid ((BV.out.trans (B2.out.mono BV.out.size)).trans (b3Y.mono (BV.out.trans (B2.out.mono BV.out.size)).size))
  have KU := Lib.hid (K2.out.below b3Y)
  have KD := Lib.hid hk4
  have RU := Lib.hid (G2.out.1.below b3Y)
  have RL := Lib.hid (G3.out.1.below b3Y)
  have RD := Lib.hid (g4.1.below bX)
  clear g4 g5 b4 bX b3Y hk4 p0 p1 p2 a0 a1 a2 CD1
  subst hY
  have sB : ∀ {W W' : World}, Below W.heap.size W W' → (W.cell? ⟨w2.heap.size, 0, none⟩ = some (.int .i64 1) ∧ W.cell? ⟨w2.heap.size, 1, none⟩ = some (.int .i64 3) ∧ W.cell? ⟨w2.heap.size, 2, none⟩ = some (.slice A2 3 c2) ∧ W.cell? ⟨w3.heap.size, 0, none⟩ = some (.int .i64 1) ∧ W.cell? ⟨w3.heap.size, 1, none⟩ = some (.int .i64 3) ∧ W.cell? ⟨w3.heap.size, 2, none⟩ = some (.slice A4 3 c4) ∧ Aside (Below (w3.alloc (.cells #[.int .i64 1, .int .i64 3, .slice A4 3 c4] 24)).heap.size (w3.alloc (.cells #[.int .i64 1, .int .i64 3, .slice A4 3 c4] 24)) W)) → (W'.cell? ⟨w2.heap.size, 0, none⟩ = some (.int .i64 1) ∧ W'.cell? ⟨w2.heap.size, 1, none⟩ = some (.int .i64 3) ∧ W'.cell? ⟨w2.heap.size, 2, none⟩ = some (.slice A2 3 c2) ∧ W'.cell? ⟨w3.heap.size, 0, none⟩ = some (.int .i64 1) ∧ W'.cell? ⟨w3.heap.size, 1, none⟩ = some (.int .i64 3) ∧ W'.cell? ⟨w3.heap.size, 2, none⟩ = some (.slice A4 3 c4) ∧ Aside (Below (w3.alloc (.cells #[.int .i64 1, .int .i64 3, .slice A4 3 c4] 24)).heap.size (w3.alloc (.cells #[.int .i64 1, .int .i64 3, .slice A4 3 c4] 24)) W')) := fun {W W'} hb h => by
    have hb' := h.2.2.2.2.2.2.out.trans (hb.mono h.2.2.2.2.2.2.out.size)
    exact ⟨(KU.out.below hb').c0, (KU.out.below hb').c1, (KU.out.below hb').c2, (KD.out.below hb').c0, (KD.out.below hb').c1, (KD.out.below hb').c2, hb'⟩
  have hS : (w3.alloc (.cells #[.int .i64 1, .int .i64 3, .slice A4 3 c4] 24)).drew.cell? ⟨w2.heap.size, 0, none⟩ = some (.int .i64 1) ∧ (w3.alloc (.cells #[.int .i64 1, .int .i64 3, .slice A4 3 c4] 24)).drew.cell? ⟨w2.heap.size, 1, none⟩ = some (.int .i64 3) ∧ (w3.alloc (.cells #[.int .i64 1, .int .i64 3, .slice A4 3 c4] 24)).drew.cell? ⟨w2.heap.size, 2, none⟩ = some (.slice A2 3 c2) ∧ (w3.alloc (.cells #[.int .i64 1, .int .i64 3, .slice A4 3 c4] 24)).drew.cell? ⟨w3.heap.size, 0, none⟩ = some (.int .i64 1) ∧ (w3.alloc (.cells #[.int .i64 1, .int .i64 3, .slice A4 3 c4] 24)).drew.cell? ⟨w3.heap.size, 1, none⟩ = some (.int .i64 3) ∧ (w3.alloc (.cells #[.int .i64 1, .int .i64 3, .slice A4 3 c4] 24)).drew.cell? ⟨w3.heap.size, 2, none⟩ = some (.slice A4 3 c4) ∧ Aside (Below (w3.alloc (.cells #[.int .i64 1, .int .i64 3, .slice A4 3 c4] 24)).heap.size (w3.alloc (.cells #[.int .i64 1, .int .i64 3, .slice A4 3 c4] 24)) (w3.alloc (.cells #[.int .i64 1, .int .i64 3, .slice A4 3 c4] 24)).drew) := ⟨KU.out.c0, KU.out.c1, KU.out.c2, KD.out.c0, KD.out.c1, KD.out.c2, (Below.refl _ _).drew⟩
  have hfr := fun (x y z : Value) (W : World) => field_rows x y z W
  go_wp2
  go_region_held3 (fun W => W.cell? ⟨w2.heap.size, 0, none⟩ = some (.int .i64 1) ∧ W.cell? ⟨w2.heap.size, 1, none⟩ = some (.int .i64 3) ∧ W.cell? ⟨w2.heap.size, 2, none⟩ = some (.slice A2 3 c2) ∧ W.cell? ⟨w3.heap.size, 0, none⟩ = some (.int .i64 1) ∧ W.cell? ⟨w3.heap.size, 1, none⟩ = some (.int .i64 3) ∧ W.cell? ⟨w3.heap.size, 2, none⟩ = some (.slice A4 3 c4) ∧ Aside (Below (w3.alloc (.cells #[.int .i64 1, .int .i64 3, .slice A4 3 c4] 24)).heap.size (w3.alloc (.cells #[.int .i64 1, .int .i64 3, .slice A4 3 c4] 24)) W))
    (assumption)
    (first
      | (go_at_call 31; (with_reducible refine (colBC _).mono ?_); rintro e' w6 ⟨A6, c6, rfl, g6, b6⟩; have hs6 := sB b6 (by assumption); have S6 := Lib.hid (same_g 1 3 A2 A6 3 3 c2 c6 rowsBC w6 (RU.out.below hs6.2.2.2.2.2.2.out) g6.1 (by decide) bc_sz); clear g6 b6)
      | (go_at_call 17; (with_reducible refine S6.out.mono ?_); rintro e' w7 ⟨rfl, b7⟩; have hs7 := sB b7 (by assumption); clear b7 S6)
      | (go_at_call 31; (with_reducible refine (colA _).mono ?_); rintro e' w8 ⟨A8, c8, rfl, g8, b8⟩; have hs8 := sB b8 (by assumption); have S8 := Lib.hid (sameRows_any A3 A8 1 1 c3 c8 rowsA rowsA w8 (RL.out.below hs8.2.2.2.2.2.2.out) g8.1 (by decide) (by decide) a_sz a_sz); rw [decide_eq_true rfl] at S8; clear g8 b8)
      | (go_at_call 20; (with_reducible refine S8.out.mono ?_); rintro e' w9 ⟨rfl, b9⟩; have hs9 := sB b9 (by assumption); clear b9)
      | (go_at_call 31; (with_reducible refine (colAB _).mono ?_); rintro e' w10 ⟨A10, c10, rfl, g10, b10⟩; have hs10 := sB b10 (by assumption); have S10 := Lib.hid (same_g 1 3 A4 A10 3 3 c4 c10 rowsAB w10 (RD.out.below hs10.2.2.2.2.2.2.out) g10.1 (by decide) ab_sz); clear g10 b10)
      | (go_at_call 17; (with_reducible refine S10.out.mono ?_); rintro e' w11 ⟨rfl, b11⟩; have hs11 := sB b11 (by assumption); clear b11))
  have B11 := Lib.hid (BY.out.trans (hs11.2.2.2.2.2.2.out.mono BY.out.size))
  clear sB hS hs6 hs7 hs8 hs9 hs10 hs11
  go_wp2
  go_ret
  exact ⟨rfl, B11.out⟩

end Go.Proofs.YtokeaoapcjlmkaaDoor
