/-
  Go's own conversion of a valid string to a list of numbers.
-/
import Derived.Test.YtcljmmadimldlaaDoorEncWalk
namespace Go.Proofs.YtcljmmadimldlaaDoor
open Go.RowKit Go.Shelf

/-- Go's conversion of a valid string to a slice of numbers: a new row that reads as the string's numbers. -/
theorem runes_of_valid (s : ByteArray) (xs : List Int) (hs : s.size ≤ 300) (hv : Lib.validD s.data.toList = true) (hx : (U8.run s.data.toList).1 = xs) :
    ∃ (G : World → Nat) (O : World → Obj), (∀ W : World, (convert 9 71 (.string s)).run Tryd.prog W = .ok (.slice (some ⟨W.heap.size, 0, none⟩) xs.length (G W)) ((W.alloc (O W)).drew)) ∧
      ∀ W : World, Nums ((W.alloc (O W)).drew) (W.heap.size + 1) (some ⟨W.heap.size, 0, none⟩) xs.length xs ∧ xs.length ≤ G W := by
  have hr := U8.runes_valid s hv
  rw [hx] at hr
  have hn : (Conv.runesFrom s s.size 0 #[]).size = xs.length := by rw [hr]; simp
  have hl : xs.length ≤ 300 := by rw [← hx]; exact Nat.le_trans (U8.run_out_le _) (by rw [← Lib.size_eq]; exact hs)
  refine ⟨fun W => grownCap W xs.length 0 21, fun W => .cells ((xs.map (Value.int .i32)).toArray ++ Array.replicate (grownCap W xs.length 0 21 - xs.length) (.int .i32 0)) 21, fun W => ?_, fun W => ?_⟩
  · have := run_runes_of_string (P := Tryd.prog) W 9 71 21 s Tryd.underlying9 Tryd.underlying71 Tryd.underlying21 (by rw [hn]; omega)
    rw [hn, hr] at this
    exact this
  · refine ⟨⟨rfl, fun j hj => ⟨W.heap.size, 0, rfl, by omega, ?_⟩⟩, grownCap_ge _ _ _ _⟩
    have e : (W.alloc (.cells ((xs.map (Value.int .i32)).toArray ++ Array.replicate (grownCap W xs.length 0 21 - xs.length) (.int .i32 0)) 21)).heap[W.heap.size]? = some (.cells ((xs.map (Value.int .i32)).toArray ++ Array.replicate (grownCap W xs.length 0 21 - xs.length) (.int .i32 0)) 21) := heap_alloc_new W _
    rw [Nat.zero_add]
    show (W.alloc _).cell? _ = _
    unfold World.cell?
    rw [e]
    simp [hj, Array.getElem?_append]

end Go.Proofs.YtcljmmadimldlaaDoor
