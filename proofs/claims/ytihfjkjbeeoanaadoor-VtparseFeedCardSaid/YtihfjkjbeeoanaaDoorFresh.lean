/-
  Decode of a stream that begins; a slice of numbers that was just laid; strings of the same bytes.
-/
import Derived.Test.YtihfjkjbeeoanaaDoorDecode
namespace Go.Proofs.YtihfjkjbeeoanaaDoor
open Go.RowKit Go.Shelf

theorem decode_fresh (c : ByteArray) (w : World) (hsz : c.size ≤ 1000) (hT : Lib.Utf8Tabs 0 1 w) :
    Calls Tryd.prog 18 #[.string { data := #[] }, .string c] w (Decoded w c.data.toList) :=
  decode_any { data := #[] } c w (by show 0 + c.size ≤ 1000; omega) hT

/-- A slice that was just laid reads as its numbers. -/
theorem nums_new (w : World) (xs : List Int) (t : TypeId) (n : Nat) (hn : xs.length = n) : Nums (w.alloc (.cells (xs.map (Value.int .i32)).toArray t)) (w.heap.size + 1) (some ⟨w.heap.size, 0, none⟩) n xs := by
  refine ⟨hn, fun j hj => ⟨w.heap.size, 0, rfl, by omega, ?_⟩⟩
  have hx : j < xs.length := by omega
  rw [Nat.zero_add]
  have e : (w.alloc (.cells (xs.map (Value.int .i32)).toArray t)).heap[w.heap.size]? = some (.cells (xs.map (Value.int .i32)).toArray t) := heap_alloc_new w _
  unfold World.cell?
  rw [e]
  simp [hx]

theorem ext_bytes {a b : ByteArray} (h : a.data.toList = b.data.toList) : a = b := by
  cases a; cases b
  congr
  exact Array.toList_inj.1 h

end Go.Proofs.YtihfjkjbeeoanaaDoor
