/-
  The examples of the chapter hold: the function awake of layer 3's statements returns true.
-/
import Derived.Test.YtjoaaehfplcanaaDoorSplit
import Derived.Test.YtjoaaehfplcanaaDoorFuncs
namespace Go.Proofs.YtjoaaehfplcanaaDoor
open Go.RowKit Go.Shelf

theorem example_one : (Cl.split [101, 769, 7, 120, 28450]).map Cl.str = [⟨#[101, 204, 129]⟩, ⟨#[120]⟩, ⟨#[230, 188, 162]⟩] := by
  have e : Cl.split [101, 769, 7, 120, 28450] = [[101, 769], [120], [28450]] := by decide
  rw [e]
  simp only [List.map_cons, List.map_nil]
  rw [Cl.same_bytes (a := Cl.str [101, 769]) (b := ⟨#[101, 204, 129]⟩) (by rw [Cl.str_data]; decide), Cl.same_bytes (a := Cl.str [120]) (b := ⟨#[120]⟩) (by rw [Cl.str_data]; decide), Cl.same_bytes (a := Cl.str [28450]) (b := ⟨#[230, 188, 162]⟩) (by rw [Cl.str_data]; decide)]
theorem example_two : (Cl.split [769]).map Cl.str = [⟨#[32, 204, 129]⟩] := by
  have e : Cl.split [769] = [[32, 769]] := by decide
  rw [e]
  simp only [List.map_cons, List.map_nil]
  rw [Cl.same_bytes (a := Cl.str [32, 769]) (b := ⟨#[32, 204, 129]⟩) (by rw [Cl.str_data]; decide)]
theorem example_width : Cl.widthC [230, 188, 162] = 2 := by
  have e : ([230, 188, 162] : List UInt8) = U8.encL [28450] := by decide
  rw [e, (Cl.good_parts (Cl.Good.one (by decide))).2.2.2]
  decide

/-- Split of a slice that was just laid. -/
theorem split_new (xs : List Int) (n : Nat) (w : World) (hn : xs.length = n) (hl : n ≤ 1000) (cs : Array Value) (hcs : (xs.map (Value.int .i32)).toArray = cs) :
    Calls Tryd.prog 14 #[.slice (some ⟨w.heap.size, 0, none⟩) n n] (w.alloc (.cells cs 21)) fun e w' => ∃ A' n' c', e = .returned (.slice A' n' c') ∧ GivesS w w' A' n' c' ((Cl.split xs).map Cl.str) := by
  subst hcs
  refine (split_any (some ⟨w.heap.size, 0, none⟩) n n (w.heap.size + 1) xs _ (by simp) (nums_new w xs 21 n hn) hl).mono ?_
  rintro e w' ⟨A', n', c', rfl, hg⟩
  exact ⟨A', n', c', rfl, hg.1, hg.2.1, ((Below.refl _ w).alloc (Nat.le_refl _) _).trans (hg.2.2.mono (by simp))⟩
/-- Same of a slice that is kept and one that was just laid. -/
theorem same_new (A : Option Addr) (n m c : Nat) (ss : List ByteArray) (w : World) (B : Nat) (hB : B ≤ w.heap.size) (hs : Strs w B A n ss) (hm : ss.length = m) (hl : m ≤ 1000) (cs : Array Value) (hcs : (ss.map Value.string).toArray = cs) :
    Calls Tryd.prog 13 #[.slice A n c, .slice (some ⟨w.heap.size, 0, none⟩) m m] (w.alloc (.cells cs 9)) fun e w' => e = .returned (.bool true) ∧ Below w.heap.size w w' ∧ Strs w' B A n ss := by
  subst hcs
  have h1 := hs.alloc hB (.cells (ss.map Value.string).toArray 9)
  refine (sameS_true A (some ⟨w.heap.size, 0, none⟩) n m c m B (w.heap.size + 1) ss _ (by have := hs.1; omega) h1 (strs_new w ss 9 m hm)).mono ?_
  rintro e w' ⟨rfl, k, rfl⟩
  exact ⟨rfl, below_drewN ((Below.refl _ w).alloc (Nat.le_refl _) _) k, h1.drewN k⟩

set_option maxHeartbeats 1000000 in
set_option maxRecDepth 100000 in
theorem awake_true (w : World) (hT : Lib.Utf8Tabs 0 1 w) : Calls Tryd.prog 12 #[] w fun e w' => e = .returned (.bool true) ∧ Below w.heap.size w w' := by
  have c1 := split_new [101, 769, 7, 120, 28450] 5 w rfl (by decide) _ rfl
  rw [example_one] at c1
  have c3 := fun W => split_new [769] 1 W rfl (by decide) _ rfl
  rw [example_two] at c3
  have c2 := fun W hW => widthC_any ⟨#[230, 188, 162]⟩ W (by decide) hW
  have e2 : Cl.widthC (⟨#[230, 188, 162]⟩ : ByteArray).data.toList = 2 := example_width
  rw [e2] at c2
  have C1 := Lib.hid c1
  have C2 := Lib.hid c2
  have C3 := Lib.hid c3
  clear c1 c2 c3 e2
  go_enter Tryd.func12, Tryd.ntmps12
  go_wp2_with fail
  refine C1.out.mono ?_
  rintro e w1 ⟨A1, n1, k1, rfl, g1⟩
  have b1 := g1.2.2
  have hn1 : n1 = 3 := g1.1.1.symm
  subst hn1
  have T1 := Utf8Tabs_below hT b1
  have HS1 := Lib.hid g1.1
  clear g1 C1
  go_wp2_with fail
  refine (same_new A1 3 3 k1 _ w1 w1.heap.size (Nat.le_refl _) HS1.out rfl (by decide) _ rfl).mono ?_
  rintro e w2 ⟨rfl, b2, hs2⟩
  have T2 := Utf8Tabs_below T1 b2
  obtain ⟨bb, off, rfl, _, hc2⟩ := hs2.2 2 (by decide)
  have hc3 : w2.cell? ⟨bb, off + 2, none⟩ = some (.string ⟨#[230, 188, 162]⟩) := hc2
  have b3 := b1.trans (b2.mono b1.size)
  clear hc2 hs2 b2 b1 HS1
  go_wp2_with fail
  refine (C2.out w2 T2).mono ?_
  rintro e w3 ⟨rfl, b4⟩
  have b5 := b3.trans (b4.mono b3.size)
  clear hc3 b3 b4
  go_wp2_with fail
  refine (C3.out w3).mono ?_
  rintro e w4 ⟨A4, n4, k4, rfl, g4⟩
  have b6 := b5.trans (g4.2.2.mono b5.size)
  have HS4 := Lib.hid g4.1
  clear g4 b5
  go_wp2_with fail
  refine (same_new A4 n4 1 k4 _ w4 w4.heap.size (Nat.le_refl _) HS4.out rfl (by decide) _ rfl).mono ?_
  rintro e w5 ⟨rfl, b7, _⟩
  go_wp2
  go_ret
  exact ⟨rfl, b6.trans (b7.mono b6.size)⟩

end Go.Proofs.YtjoaaehfplcanaaDoor
