/-
  What the two functions inside Split do to its variables: one begins a cluster, the other attaches a mark.
-/
import Derived.Test.YtjoaaehfplcanaaDoorState
import Derived.Test.YtjoaaehfplcanaaDoorEncWalk
import Derived.Deep.RegionLaw
import Derived.Deep.RegionHeld3
import Derived.Deep.AppendLies
namespace Go.Proofs.YtjoaaehfplcanaaDoor
open Go.RowKit Go.Shelf

/-- Encode of one character that was just laid. -/
theorem enc_one (r : Int) (w : World) :
    Calls Tryd.prog 30 #[.slice (some ⟨w.heap.size, 0, none⟩) 1 1] (w.alloc (.cells #[.int .i32 r] 21)) fun e w' => e = .returned (.string (Cl.str [r])) ∧ w.alloc (.cells #[.int .i32 r] 21) = w' :=
  encode_any (some ⟨w.heap.size, 0, none⟩) 1 1 (w.heap.size + 1) [r] _ (nums_new w [r] 21 1 rfl)

set_option maxHeartbeats 2000000 in
set_option maxRecDepth 100000 in
theorem begin_any (w0 : World) (g : Nat) (w : World) (v : Value) (ss : List ByteArray) (m r : Int) (h : St w0 g w v ss m) (hl : ss.length ≤ 1000) :
    Calls Tryd.prog 31 #[.int .i32 r, .pointer (some ⟨g, 0, none⟩), .pointer (some ⟨g + 1, 0, none⟩)] w
      fun e w' => e = .returned (.tuple #[]) ∧ ∃ v', St w0 g w' v' (ss ++ [Cl.str [r]]) 0 := by
  obtain ⟨i0, hi0, hz0, hz1, hz2⟩ := info_parts Tryd.infoString
  obtain ⟨z, hz⟩ : ∃ z, Cl.str [r] = z := ⟨_, rfl⟩
  have cE : Calls Tryd.prog 30 #[.slice (some ⟨w.heap.size, 0, none⟩) 1 1] (w.alloc (.cells #[.int .i32 r] 21)).drew fun e w' => e = .returned (.string z) ∧ (w.alloc (.cells #[.int .i32 r] 21)).drew = w' := hz ▸ enc_one r w.drew
  rw [hz]
  clear hz
  have HS : Hid (St w0 g ((w.alloc (.cells #[.int .i32 r] 21)).alloc (.cells #[.string z] 9)).drew v ss m) := Lib.hid ((h.alloc _).alloc _).drew
  have hc := h.cellC
  have hm := h.cellM
  have hlt := h.lt
  have hcA := ((h.alloc (.cells #[.int .i32 r] 21))).cellC.1
  have hcB := ((h.alloc (.cells #[.int .i32 r] 21)).alloc (.cells #[.string z] 9)).cellC.1
  have hnew : Hid ((((w.alloc (.cells #[.int .i32 r] 21)).alloc (.cells #[.string z] 9)).drew).heap[w.heap.size + 1]? = some (.cells #[.string z] 9)) := Lib.hid (by
    have e := heap_alloc_new (w.alloc (.cells #[.int .i32 r] 21)) (.cells #[.string z] 9)
    have e2 : (w.alloc (.cells #[.int .i32 r] 21)).heap.size = w.heap.size + 1 := by simp
    rw [e2] at e
    exact e)
  clear h
  obtain ⟨hc1, hc2⟩ := hc
  obtain ⟨hm1, hm2⟩ := hm
  have HV : Hid (∀ w1, ((w.alloc (.cells #[.int .i32 r] 21)).alloc (.cells #[.string z] 9)).drew.grownBy w1 v.ownBlock → w1.cell? ⟨g, 0, none⟩ = some v ∧ w1.frozen? ⟨g, 0, none⟩ = false ∧ w1.cell? ⟨g + 1, 0, none⟩ = some (.int .i64 m) ∧ w1.frozen? ⟨g + 1, 0, none⟩ = false) := Lib.hid (fun w1 hgr => HS.out.vars hgr)
  go_enter Tryd.func31, Tryd.ntmps31
  go_wp2_with fail
  go_region_law (first
    | (go_simp; refine cE.mono ?_; rintro e w' ⟨rfl, rfl⟩)
    | (refine step_append_lies _ (by rfl) _ _ _ (by rfl) (g + 3) 9 i0 _ 1 16 Tryd.underlying25 hi0 hz0 hz1 hz2 rfl (by omega) v ss.length (ss.map Value.string) (by rfl) HS.out.2.1
        ⟨w.heap.size + 1, 0, none⟩ 1 1 [.string z] (by rfl) (by rfl) (World.news_of_block (cs := #[.string z]) (t := 9) (fr := (0, 0)) hnew.out) (by simp [Value.oneCell'])
        (by omega) (by unfold maxLen; omega) (by omega) (by simp; omega) (w.heap.size + 2) (by simp) ?_; intro gg cap w1 hown1 hgrow hat hlt1; have hvv := HV.out w1 hgrow; obtain ⟨hv1, hv2, hv3, hv4⟩ := hvv))
  all_goals
    go_wp2
    first | go_end0 | refine bodyPost_ret (results_none rfl _ _ _) rfl ?_
    exact ⟨rfl, _, ((HS.out.grown hown1 hgrow).setM 0)⟩

end Go.Proofs.YtjoaaehfplcanaaDoor
