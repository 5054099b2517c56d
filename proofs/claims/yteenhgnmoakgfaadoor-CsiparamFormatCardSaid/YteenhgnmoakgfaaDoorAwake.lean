/-
  The examples of the chapter hold: the function awake of layer 5's statements returns true; what At returns.
-/
import Derived.Test.YteenhgnmoakgfaaDoorParse
import Derived.Test.YteenhgnmoakgfaaDoorFormat
namespace Go.Proofs.YteenhgnmoakgfaaDoor
open Go.RowKit Go.Shelf

theorem ext_bytes {a b : ByteArray} (h : a.data.toList = b.data.toList) : a = b := by
  cases a; cases b
  congr
  exact Array.toList_inj.1 h
theorem ex_parse : Cp.parse (⟨#[63, 50, 53, 59, 59, 55]⟩ : ByteArray).data.toList = (63, [25, -1, 7], [], 0) := by decide +kernel
theorem itoa25 : Lib.itoa 25 = [50, 53] := by
  have e := Cp.itoa_more 2 5 (by decide) (by decide)
  rw [Cp.itoa_digit 2 (by decide)] at e
  exact e
theorem ex_fmt : Cp.fmt 63 [25, -1, 7] (⟨#[]⟩ : ByteArray).data.toList = ([63, 50, 53, 59, 59, 55], 0) := by
  have e1 : Cp.bad 63 [25, -1, 7] (⟨#[]⟩ : ByteArray).data.toList = false := by decide
  have e2 : Cp.over [25, -1, 7] (⟨#[]⟩ : ByteArray).data.toList = false := by decide
  unfold Cp.fmt
  rw [e1, e2]
  have e3 : Cp.num 25 = [50, 53] := itoa25
  have e4 : Cp.num 7 = [55] := Cp.itoa_digit 7 (by decide)
  have e5 : Cp.num (-1) = [] := rfl
  simp only [Cp.bd, e3, e4, e5]
  rfl

/-- A slice that was just laid reads as its numbers. -/
theorem nums_new (w : World) (xs : List Int) (t : TypeId) (n : Nat) (hn : xs.length = n) (cs : Array Value) (hcs : (xs.map (Value.int .i64)).toArray = cs) : Nums (w.alloc (.cells cs t)) (w.heap.size + 1) (some ⟨w.heap.size, 0, none⟩) n xs := by
  subst hcs
  refine ⟨hn, fun j hj => ⟨w.heap.size, 0, rfl, by omega, ?_⟩⟩
  have hx : j < xs.length := by omega
  rw [Nat.zero_add]
  have e : (w.alloc (.cells (xs.map (Value.int .i64)).toArray t)).heap[w.heap.size]? = some (.cells (xs.map (Value.int .i64)).toArray t) := heap_alloc_new w _
  unfold World.cell?
  rw [e]
  simp [hx]

/-- Format of a slice that was just laid. -/
theorem format_new (w : World) (hP : Pw w) :
    Calls Tryd.prog 16 #[.int .u8 63, .slice (some ⟨w.heap.size, 0, none⟩) 3 3, .string ⟨#[]⟩] (w.alloc (.cells #[.int .i64 25, .int .i64 (-1), .int .i64 7] 3))
      fun e w' => e = .returned (.tuple #[.string ⟨#[63, 50, 53, 59, 59, 55]⟩, .int .i64 0]) ∧ Below w.heap.size w w' := by
  have hb : Below w.heap.size w (w.alloc (.cells #[.int .i64 25, .int .i64 (-1), .int .i64 7] 3)) := (Below.refl _ w).alloc (Nat.le_refl _) _
  have c := format_any 63 (some ⟨w.heap.size, 0, none⟩) 3 3 (w.heap.size + 1) [25, -1, 7] ⟨#[]⟩ (w.alloc (.cells #[.int .i64 25, .int .i64 (-1), .int .i64 7] 3)) (by simp) (nums_new w [25, -1, 7] 3 3 rfl _ rfl) (by decide) (by decide) (hP.below hb) (by decide) ex_fmt
  refine c.mono ?_
  rintro e w' ⟨t, rfl, ht, hb'⟩
  obtain rfl : t = ⟨#[63, 50, 53, 59, 59, 55]⟩ := ext_bytes ht
  exact ⟨rfl, hb.trans (hb'.mono hb.size)⟩

set_option maxHeartbeats 1000000 in
set_option maxRecDepth 100000 in
theorem awake_true (w : World) (hP : Pw w) : Calls Tryd.prog 12 #[] w fun e w' => e = .returned (.bool true) ∧ Below w.heap.size w w' := by
  have c1 := Lib.hid (parse_any ⟨#[63, 50, 53, 59, 59, 55]⟩ w (by decide) ex_parse)
  go_enter Tryd.func12, Tryd.ntmps12
  go_wp2_with fail
  refine c1.out.mono ?_
  rintro e w1 ⟨A1, n1, k1, t, rfl, ht, g1⟩
  obtain rfl : t = ⟨#[]⟩ := ext_bytes ht
  have b1 := g1.2.2
  have P1 := hP.below b1
  have HS1 := Lib.hid g1
  clear g1 c1 ht
  have c2 := Lib.hid (format_new w1 P1)
  go_wp2_with fail
  refine c2.out.mono ?_
  rintro e w2 ⟨rfl, b2⟩
  have g2 := HS1.out.later b2
  have HS2 := Lib.hid g2.1
  have B2 := Lib.hid g2.2.2
  clear g2 HS1 b1 b2 c2
  have hn1 : [25, -1, 7].length = n1 := HS2.out.1
  have c3 := Lib.hid (same_yes A1 (some ⟨w2.heap.size, 0, none⟩) n1 3 k1 3 w2.heap.size (w2.heap.size + 1) [25, -1, 7] (w2.alloc (.cells #[.int .i64 25, .int .i64 (-1), .int .i64 7] 3)) (by decide) (HS2.out.alloc (Nat.le_refl _) _) (nums_new w2 [25, -1, 7] 3 3 rfl _ rfl))
  clear hn1
  go_wp2_with fail
  refine c3.out.mono ?_
  rintro e w3 ⟨rfl, b3⟩
  have b4 : Below w.heap.size w w3 := B2.out.trans (((Below.refl _ w2).alloc (Nat.le_refl _) _).trans (b3.mono (by simp)) |>.mono B2.out.size)
  clear b3
  go_wp2
  go_ret
  exact ⟨rfl, b4⟩

/-- What At returns. -/
def atP (ps : List Int) (i v : Int) : Int := if 0 ≤ i ∧ i < (ps.length : Int) ∧ 0 < ps.getD i.toNat 0 then ps.getD i.toNat 0 else v

set_option maxHeartbeats 1000000 in
set_option maxRecDepth 100000 in
theorem at_any (A : Option Addr) (n c B : Nat) (ps : List Int) (i v : Int) (w : World) (hX : Nums w B A n ps) :
    Calls Tryd.prog 18 #[.slice A n c, .int .i64 i, .int .i64 v] w fun e w' => e = .returned (.int .i64 (atP ps i v)) ∧ w = w' := by
  obtain ⟨R, hR⟩ : ∃ R, atP ps i v = R := ⟨_, rfl⟩
  rw [hR]
  unfold atP at hR
  rw [hX.1] at hR
  by_cases h0 : 0 ≤ i
  · by_cases h1 : i < (n : Int)
    · obtain ⟨k, rfl⟩ : ∃ k : Nat, i = k := ⟨i.toNat, by omega⟩
      obtain ⟨b, off, rfl, _, hc⟩ := hX.2 k (by omega)
      have e : ((k : Int)).toNat = k := by simp
      rw [e] at hR
      generalize ps.getD k 0 = z at hc hR
      by_cases h2 : 0 < z
      · rw [if_pos ⟨h0, h1, h2⟩] at hR
        subst hR
        clear hX e
        go_enter Tryd.func18, Tryd.ntmps18
        go_wp2
        go_ret
        exact ⟨rfl, rfl⟩
      · rw [if_neg (fun h => h2 h.2.2)] at hR
        subst hR
        clear hX e
        go_enter Tryd.func18, Tryd.ntmps18
        go_wp2
        go_ret
        exact ⟨rfl, rfl⟩
    · rw [if_neg (fun h => h1 h.2.1)] at hR
      subst hR
      clear hX
      go_enter Tryd.func18, Tryd.ntmps18
      go_wp2
      go_ret
      exact ⟨rfl, rfl⟩
  · rw [if_neg (fun h => h0 h.1)] at hR
    subst hR
    clear hX
    go_enter Tryd.func18, Tryd.ntmps18
    go_wp2
    go_ret
    exact ⟨rfl, rfl⟩

end Go.Proofs.YteenhgnmoakgfaaDoor
