/-
  Decode of a stream that begins; a slice of numbers that was just laid; strings of the same bytes.
-/
import Derived.Test.YtcljmmadimldlaaDoorOut
import Derived.Test.YtcljmmadimldlaaDoorParts
import Derived.Test.YtcljmmadimldlaaDoorShelf
import Derived.Deep.DeepFit
import Derived.Deep.DeepMust
import Derived.Deep.DeepCutAuto
namespace Go.Proofs.YtcljmmadimldlaaDoor
open Go.RowKit Go.Shelf

/-- A slice that was just laid reads as its numbers. -/
theorem nums_new (w : World) (xs : List Int) (t : TypeId) (n : Nat) (hn : xs.length = n) : Nums (w.alloc (.cells (xs.map (Value.int .i32)).toArray t)) (w.heap.size + 1) (some ⟨w.heap.size, 0, none⟩) n xs := by
  refine ⟨hn, fun j hj => ⟨w.heap.size, 0, rfl, by omega, ?_⟩⟩
  have hx : j < xs.length := by omega
  rw [Nat.zero_add]
  have e : (w.alloc (.cells (xs.map (Value.int .i32)).toArray t)).heap[w.heap.size]? = some (.cells (xs.map (Value.int .i32)).toArray t) := heap_alloc_new w _
  unfold World.cell?
  rw [e]
  simp [hx]

theorem ext_bytes {a b : ByteArray} (h : a.data.toList = b.data.toList) : a = b := by
  cases a; cases b
  congr
  exact Array.toList_inj.1 h

end Go.Proofs.YtcljmmadimldlaaDoor
