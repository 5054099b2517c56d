/-
  The example of the chapter holds: the function awake of layer 6's statements returns true; what large returns.
-/
import Derived.Test.YtihfjkjbeeoanaaDoorSame
namespace Go.Proofs.YtihfjkjbeeoanaaDoor
open Go.RowKit

/-- Events that were just laid. -/
theorem evs_new (w : World) (gs : List G) (n : Nat) (es : List Vt.E) (hn : gs.length = n) (he : gs.map G.e = es) (t : TypeId) (hp : ∀ g ∈ gs, Ci.Nums w w.heap.size g.A g.n g.e.ps) (cs : Array Value) (hcs : (gs.flatMap G.cells).toArray = cs) : Evs (w.alloc (.cells cs t)) (some ⟨w.heap.size, 0, none⟩) n es := by
  subst hcs
  have hb := (Below.refl w.heap.size w).alloc (Nat.le_refl _) (.cells (gs.flatMap G.cells).toArray t)
  refine ⟨gs, he, hn, fun j g hj => ⟨w.heap.size, 0, rfl, by simp, fun i v hv => ?_⟩, fun g hg => ((hp g hg).below hb (Nat.le_refl _)).more hb.size⟩
  have e : (w.alloc (.cells (gs.flatMap G.cells).toArray t)).heap[w.heap.size]? = some (.cells (gs.flatMap G.cells).toArray t) := heap_alloc_new w _
  rw [Nat.zero_add]
  unfold World.cell?
  rw [e]
  have := cells_at gs j i g v hj hv
  simpa using this
/-- A slice of numbers that was just laid. -/
theorem ints_new (w : World) (xs : List Int) (t : TypeId) (n : Nat) (hn : xs.length = n) (cs : Array Value) (hcs : (xs.map (Value.int .i64)).toArray = cs) : Ci.Nums (w.alloc (.cells cs t)) (w.heap.size + 1) (some ⟨w.heap.size, 0, none⟩) n xs := by
  subst hcs
  refine ⟨hn, fun j hj => ⟨w.heap.size, 0, rfl, by omega, ?_⟩⟩
  have hx : j < xs.length := by omega
  rw [Nat.zero_add]
  have e : (w.alloc (.cells (xs.map (Value.int .i64)).toArray t)).heap[w.heap.size]? = some (.cells (xs.map (Value.int .i64)).toArray t) := heap_alloc_new w _
  unfold World.cell?
  rw [e]
  simp [hx]
theorem ints_none (w : World) (B : Nat) : Ci.Nums w B none 0 [] := ⟨rfl, fun j hj => by omega⟩
theorem wake_feed : Vt.feed Vt.zero [27, 91, 49, 7, 109] = (Vt.zero, [⟨2, 0, 7, 0, [], [], []⟩, ⟨4, 0, 109, 0, [], [1], []⟩]) := by rfl

set_option maxHeartbeats 1000000 in
set_option maxRecDepth 100000 in
theorem awake_true (w : World) (hT : Lib.Utf8Tabs 0 1 w) : Calls Tryd.prog 5 #[] w fun e w' => e = .returned (.bool true) ∧ Below w.heap.size w w' := by
  have c1 := feed_any Vt.zero ⟨#[27, 91, 49, 7, 109]⟩ w (by decide) (by decide) (by decide) hT
  have e : (⟨#[27, 91, 49, 7, 109]⟩ : ByteArray).data.toList = [27, 91, 49, 7, 109] := rfl
  rw [e, wake_feed] at c1
  have C1 := Lib.hid c1
  clear c1 e
  go_enter Tryd.func5, Tryd.ntmps5
  go_wp2_with fail
  refine C1.out.mono ?_
  rintro e w1 ⟨A1, n1, c1, he, hO⟩
  have he : e = .returned (.tuple #[.agg #[.int .i64 0, .string ⟨#[]⟩, .string ⟨#[]⟩], .slice A1 n1 c1]) := he
  subst he
  obtain rfl : n1 = 2 := hO.len.1
  have HO := Lib.hid hO
  clear hO C1
  obtain ⟨W1, hW1⟩ : ∃ W1, w1.alloc (.cells #[.int .i64 0, .string ⟨#[]⟩, .string ⟨#[]⟩] 23) = W1 := ⟨_, rfl⟩
  have hs1 : W1.heap.size = w1.heap.size + 1 := by rw [← hW1]; simp
  obtain ⟨W2, hW2⟩ : ∃ W2, W1.alloc (.cells #[.int .i64 1] 3) = W2 := ⟨_, rfl⟩
  have hs2 : W2.heap.size = w1.heap.size + 1 + 1 := by rw [← hW2]; simp [hs1]
  have b2 : Below w1.heap.size w1 W2 := by rw [← hW2, ← hW1]; exact ((Below.refl _ _).alloc (Nat.le_refl _) _).alloc (by simp) _
  have hn2 : Ci.Nums W2 W2.heap.size (some ⟨w1.heap.size + 1, 0, none⟩) 1 [1] := by
    have := ints_new W1 [1] 3 1 rfl _ rfl
    rw [hs1] at this
    rw [hs2, ← hW2]
    exact this
  have h2 := evs_new W2 [⟨⟨2, 0, 7, 0, [], [], []⟩, none, 0, 0⟩, ⟨⟨4, 0, 109, 0, [], [1], []⟩, some ⟨w1.heap.size + 1, 0, none⟩, 1, 1⟩] 2 _ rfl rfl 33 (by
    intro g hg
    simp only [List.mem_cons, List.not_mem_nil, or_false] at hg
    rcases hg with rfl | rfl
    · exact ints_none _ _
    · exact hn2) _ rfl
  rw [hs2, ← hW2, ← hW1] at h2
  rw [← hW2, ← hW1] at b2
  have b3 := b2.alloc b2.size (.cells (List.flatMap G.cells [⟨⟨2, 0, 7, 0, [], [], []⟩, none, 0, 0⟩, ⟨⟨4, 0, 109, 0, [], [1], []⟩, some ⟨w1.heap.size + 1, 0, none⟩, 1, 1⟩]).toArray 33)
  have cS := sameEvents_any _ A1 (some ⟨w1.heap.size + 1 + 1, 0, none⟩) 2 c1 2 _ (HO.out.evs.below b3) h2 (by decide) (by
    intro e he
    simp only [List.mem_cons, List.not_mem_nil, or_false] at he
    rcases he with rfl | rfl <;> decide)
  have CS := Lib.hid cS
  have HB := Lib.hid (HO.out.low.trans (b3.mono HO.out.low.size))
  clear cS b3 h2 hn2 b2 hs2 hs1 hW1 hW2
  go_wp2_with fail
  refine CS.out.mono ?_
  rintro e w2 ⟨rfl, b4⟩
  go_wp2
  go_ret
  exact ⟨rfl, HB.out.trans (b4.mono HB.out.size)⟩

theorem large_yes (p : Vt.P) (s : ByteArray) (w : World) (h : 400 < p.pe.length ∨ 400 < p.bu.length ∨ 400 < s.size) (h1 : p.pe.length ≤ 9223372036854775807) (h2 : p.bu.length ≤ 9223372036854775807) (h3 : s.size ≤ 9223372036854775807) :
    Calls Tryd.prog 4 #[.agg #[.int .i64 p.st, .string (ba p.pe), .string (ba p.bu)], .string s] w fun e w' => e = .returned (.bool true) ∧ Below w.heap.size w w' := by
  obtain ⟨st, pe, bu⟩ := p
  have hp := ba_size pe
  have hq := ba_size bu
  simp only at h h1 h2
  by_cases z1 : 400 < pe.length
  · have y1 : (400 : Int) < ((ba pe).size : Int) := by omega
    clear hp hq
    go_enter Tryd.func4, Tryd.ntmps4
    go_wp2
    go_ret
    exact ⟨rfl, (Below.refl _ _).alloc (Nat.le_refl _) _⟩
  · have y1 : ¬ (400 : Int) < ((ba pe).size : Int) := by omega
    by_cases z2 : 400 < bu.length
    · have y2 : (400 : Int) < ((ba bu).size : Int) := by omega
      clear hp hq
      go_enter Tryd.func4, Tryd.ntmps4
      go_wp2
      go_ret
      exact ⟨rfl, (Below.refl _ _).alloc (Nat.le_refl _) _⟩
    · have y2 : ¬ (400 : Int) < ((ba bu).size : Int) := by omega
      have y3 : (400 : Int) < (s.size : Int) := by omega
      clear hp hq h
      go_enter Tryd.func4, Tryd.ntmps4
      go_wp2
      go_ret
      exact ⟨rfl, (Below.refl _ _).alloc (Nat.le_refl _) _⟩
theorem large_no (p : Vt.P) (s : ByteArray) (w : World) (h1 : p.pe.length ≤ 400) (h2 : p.bu.length ≤ 400) (h3 : s.size ≤ 400) :
    Calls Tryd.prog 4 #[.agg #[.int .i64 p.st, .string (ba p.pe), .string (ba p.bu)], .string s] w fun e w' => e = .returned (.bool false) ∧ Below w.heap.size w w' := by
  obtain ⟨st, pe, bu⟩ := p
  have hp := ba_size pe
  have hq := ba_size bu
  simp only at h1 h2
  have y1 : ¬ (400 : Int) < ((ba pe).size : Int) := by omega
  have y2 : ¬ (400 : Int) < ((ba bu).size : Int) := by omega
  have y3 : ¬ (400 : Int) < (s.size : Int) := by omega
  clear hp hq
  go_enter Tryd.func4, Tryd.ntmps4
  go_wp2
  go_ret
  exact ⟨rfl, (Below.refl _ _).alloc (Nat.le_refl _) _⟩

end Go.Proofs.YtihfjkjbeeoanaaDoor
