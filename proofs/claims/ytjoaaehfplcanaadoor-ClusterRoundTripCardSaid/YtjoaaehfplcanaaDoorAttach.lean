/-
  What the function inside Split that attaches a mark does to its variables.
-/
import Derived.Test.YtjoaaehfplcanaaDoorBegin
namespace Go.Proofs.YtjoaaehfplcanaaDoor
open Go.RowKit Go.Shelf

set_option maxHeartbeats 2000000 in
set_option maxRecDepth 100000 in
theorem attach_full (w0 : World) (g : Nat) (w : World) (v : Value) (ss : List ByteArray) (x : ByteArray) (m r : Int) (h : St w0 g w v (ss ++ [x]) m) (hm : ¬ m < 3) (hl : ss.length ≤ 1000) :
    Calls Tryd.prog 32 #[.int .i32 r, .pointer (some ⟨g, 0, none⟩), .pointer (some ⟨g + 2, 0, none⟩), .pointer (some ⟨g + 1, 0, none⟩)] w
      fun e w' => e = .returned (.tuple #[]) ∧ St w0 g w' v (ss ++ [x]) m := by
  obtain ⟨k, cap, rfl, hk1, hk2, hk3, hk4, hk5⟩ := h.last
  obtain ⟨n, hn⟩ : ∃ n, ss.length + 1 = n := ⟨_, rfl⟩
  have HS := Lib.hid h
  obtain ⟨hc1, hc2⟩ := h.cellC
  obtain ⟨hm1, hm2⟩ := h.cellM
  have hz : ((n : Int) == 0) = false := by simp; omega
  rw [hn] at hc1 HS ⊢
  clear h hk5
  go_enter Tryd.func32, Tryd.ntmps32
  go_wp2
  first | go_end0 | refine bodyPost_ret (results_none rfl _ _ _) rfl ?_
  exact ⟨rfl, HS.out⟩

set_option maxHeartbeats 4000000 in
set_option maxRecDepth 100000 in
theorem attach_room (w0 : World) (g : Nat) (w : World) (v : Value) (ss : List ByteArray) (x : ByteArray) (m r : Int) (h : St w0 g w v (ss ++ [x]) m) (hm0 : 0 ≤ m) (hm : m < 3) (hl : ss.length ≤ 1000) (hx : x.size ≤ 10000) :
    Calls Tryd.prog 32 #[.int .i32 r, .pointer (some ⟨g, 0, none⟩), .pointer (some ⟨g + 2, 0, none⟩), .pointer (some ⟨g + 1, 0, none⟩)] w
      fun e w' => e = .returned (.tuple #[]) ∧ St w0 g w' v (ss ++ [x ++ Cl.str [r]]) (m + 1) := by
  obtain ⟨z, hz⟩ : ∃ z, Cl.str [r] = z := ⟨_, rfl⟩
  have cE : Calls Tryd.prog 30 #[.slice (some ⟨w.heap.size, 0, none⟩) 1 1] (w.alloc (.cells #[.int .i32 r] 21)).drew fun e w' => e = .returned (.string z) ∧ (w.alloc (.cells #[.int .i32 r] 21)).drew = w' := hz ▸ enc_one r w.drew
  have hzs : z.size ≤ 4 := by rw [← hz]; exact Cl.str_size [r]
  rw [hz]
  clear hz
  have hA := h.alloc (.cells #[.int .i32 r] 21)
  obtain ⟨k, cap, rfl, hk1, hk2, hk3, hk4, hk5⟩ := h.last
  obtain ⟨k', cap', e', _, _, hA3, hA4, _⟩ := hA.last
  obtain ⟨rfl, rfl⟩ : k = k' ∧ cap = cap' := by
    injection e' with e1 e2 e3
    injection e1 with e1
    injection e1 with e1
    exact ⟨e1, e3⟩
  clear e'
  obtain ⟨n, hn⟩ : ∃ n, ss.length = n := ⟨_, rfl⟩
  obtain ⟨n1, hn1⟩ : ∃ n1, ss.length + 1 = n1 := ⟨_, rfl⟩
  obtain ⟨hc1, hc2⟩ := h.cellC
  obtain ⟨hm1, hm2⟩ := h.cellM
  have hcA := hA.cellC.1
  have hb : ((n1 : Int) == 0) = false := by simp; omega
  have hw : IntKind.i64.wrap ((n1 : Int) - 1) = (n : Int) := by rw [IntKind.wrap_i64]; omega
  have hi0 : (0 : Int) ≤ (n : Int) := by omega
  have hi1 : (n : Int) < (n1 : Int) := by omega
  have hcat : ¬ 9223372036854775807 < x.size + z.size := by omega
  have hgk : g ≠ k := by omega
  have hgk1 : g + 1 ≠ k := by omega
  have H5 : Hid (St w0 g (((w.setCell ⟨k, n, none⟩ (.string (x ++ z))).alloc (.cells #[.int .i32 r] 21)).drew) (.slice (some ⟨k, 0, none⟩) n1 cap) (ss ++ [x ++ z]) m) := Lib.hid (by have := hk5 (x ++ z); rw [hn1, hn] at this; exact (this.alloc _).drew)
  rw [hn1] at hc1 hcA ⊢
  rw [hn] at hk3 hk4 hA3 hA4
  clear h hA hk5 hn hn1
  go_enter Tryd.func32, Tryd.ntmps32
  go_wp2_with fail
  go_region_law (first | (go_simp; refine cE.mono ?_; rintro e w' ⟨rfl, rfl⟩))
  all_goals
    generalize ((w.setCell ⟨k, n, none⟩ (.string (x ++ z))).alloc (.cells #[.int .i32 r] 21)).drew = W5 at H5 ⊢
    obtain ⟨hm1', hm2'⟩ := H5.out.cellM
    clear cE hk3 hk4 hA3 hA4 hc1 hc2 hm1 hm2 hcA
    go_wp2
    first | go_end0 | refine bodyPost_ret (results_none rfl _ _ _) rfl ?_
    exact ⟨rfl, H5.out.setM (m + 1)⟩

end Go.Proofs.YtjoaaehfplcanaaDoor
