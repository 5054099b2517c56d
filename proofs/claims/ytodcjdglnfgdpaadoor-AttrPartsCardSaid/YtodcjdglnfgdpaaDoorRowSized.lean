/-
  The length of a slice of numbers among the arguments is bounded where its weight is.
-/
import Derived.Test.YtodcjdglnfgdpaaDoorRow
namespace Go.Proofs.YtodcjdglnfgdpaaDoor
open Go.ChangeShapes Go.WideShapes Go.ChangeAt Go.RowKit

theorem intBytes : Tryd.prog.bytesOf 3 = 8 := by kernel_rfl

theorem len_nums {H : Type} {enc : TypeId × Value → H} {W : World} {A : Option Addr} {n c : Nat} {d : DataW H} {p : List MemPlace} (h : DataW.Trod enc Tryd.prog W 0 (fun _ => true) true 24 (.slice A n c) d p)
    (hw : ∀ el sp : List (DataW H), d = .slice el sp → (el.length + sp.length) * Tryd.prog.bytesOf 3 ≤ reachBytes) : n ≤ 140737488351232 := by
  obtain ⟨fuel, hf⟩ := h
  rcases open_ints Tryd.underlying24 Tryd.underlying3 (by kernel_rfl) hf with ⟨hcs, _⟩ | ⟨x, l, cap, zs, hcs, _, hl, hm, hz, hx, hcell, hwz⟩
  · simp [Value.cells] at hcs
    obtain ⟨rfl, rfl, rfl⟩ := hcs
    omega
  · simp [Value.cells] at hcs
    obtain ⟨rfl, rfl, rfl⟩ := hcs
    have hz : zs.length = c := by simpa using hz
    have hd := hw _ _ (congrArg Prod.fst hx)
    rw [intBytes] at hd
    have hr := reachBytes_lt
    have e : (lits .i64 (zs.take n) (H := H)).length = n := by simp [lits]; omega
    rw [e] at hd
    omega

end Go.Proofs.YtodcjdglnfgdpaaDoor
