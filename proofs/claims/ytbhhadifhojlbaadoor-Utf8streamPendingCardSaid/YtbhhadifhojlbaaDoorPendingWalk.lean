/-
  The statement on pending bytes returns true, for every string.
-/
import Derived.Test.YtbhhadifhojlbaaDoorSplitWalk
namespace Go.Proofs.YtbhhadifhojlbaaDoor
open Go.RowKit Go.Shelf

theorem suffix_bytes {s t : ByteArray} (h : t.data.toList <:+ s.data.toList) : s.extract (s.size - t.size) s.size = t := by
  refine ext_bytes ?_
  rw [Lib.extract_to_end, Lib.size_eq, Lib.size_eq]
  exact ((List.suffix_iff_eq_drop).1 h).symm

set_option maxHeartbeats 1000000 in
set_option maxRecDepth 100000 in
theorem pending_walk (s : ByteArray) (w : World) (hs : s.size ≤ 140737488351232) (hT : Lib.Utf8Tabs 0 1 w) :
    Calls Tryd.prog 8 #[.string s] w fun e w' => e = .returned (.bool true) ∧ Below w.heap.size w w' := by
  by_cases hbig : 300 < s.size
  · have hbz : (300 : Int) < (s.size : Int) := by omega
    have cA := Lib.hid (awake_true w hT)
    go_enter Tryd.func8, Tryd.ntmps8
    go_wp2_with fail
    refine cA.out.mono ?_
    rintro e w1 ⟨rfl, hb⟩
    go_wp2
    go_ret
    exact ⟨rfl, hb⟩
  · have hbz : ¬ (300 : Int) < (s.size : Int) := by omega
    go_enter Tryd.func8, Tryd.ntmps8
    go_wp2_with fail
    refine (decode_gives_fresh s w (by omega) hT).mono ?_
    rintro e w1 ⟨A1, n1, c1, t1, rfl, ht1, g1⟩
    have T1 := Utf8Tabs_below hT g1.2.2
    have hop : U8.Opened t1.data.toList := by rw [ht1]; exact U8.opened_run _
    have hz1 : t1.size ≤ 3 := by rw [Lib.size_eq]; exact U8.opened_length hop
    have hsuf : t1.data.toList <:+ s.data.toList := by rw [ht1]; exact U8.run_suffix _
    have hle : t1.size ≤ s.size := by rw [Lib.size_eq, Lib.size_eq]; exact hsuf.length_le
    have hn1 : n1 ≤ s.size := by rw [g1.length, Lib.size_eq]; exact U8.run_out_le _
    have hex : s.extract (s.size - t1.size) s.size = t1 := suffix_bytes hsuf
    have Hop := Lib.hid hop
    have b1 := g1.2.2
    clear ht1 hop hsuf g1
    go_wp2_with fail
    refine (decode_gives_fresh t1 w1 (by omega) T1).mono ?_
    rintro e w2 ⟨A2, n2, c2, t2, rfl, ht2, g2⟩
    have T2 := Utf8Tabs_below T1 g2.2.2
    have hr := U8.run_opened Hop.out
    have hl2 := g2.length
    rw [hr] at ht2 hl2
    obtain rfl : t2 = t1 := ext_bytes ht2
    obtain rfl : n2 = 0 := hl2
    have b2 : Below w.heap.size w w2 := b1.trans (g2.2.2.mono b1.size)
    have q1 : ¬ (3 : Int) < (t2.size : Int) := by omega
    have q2 : ¬ (s.size : Int) < (t2.size : Int) := by omega
    have q3 : ((s.size : Int) - (t2.size : Int)).toNat = s.size - t2.size := by omega
    have q4 : (0 : Int) ≤ (s.size : Int) - (t2.size : Int) := by omega
    have q5 : (s.size : Int) - (t2.size : Int) ≤ (s.size : Int) := by omega
    have q6 : ¬ (s.size : Int) < (n1 : Int) := by omega
    clear g2 hr ht2
    have cF := finish_gives t2 w2 (by omega) T2
    rw [U8.ended_opened Hop.out] at cF
    by_cases he : t2.data.toList = []
    · rw [if_pos he] at cF
      obtain rfl : t2 = ⟨#[]⟩ := ext_bytes he
      have CF := Lib.hid cF
      clear cF he Hop
      go_wp2_with fail
      refine CF.out.mono ?_
      rintro e w3 ⟨A3, n3, c3, rfl, g3⟩
      obtain rfl : n3 = 0 := g3.length
      have T3 := Utf8Tabs_below T2 g3.2.2
      have b3 : Below w.heap.size w w3 := b2.trans (g3.2.2.mono b2.size)
      have cA := Lib.hid (awake_true w3 T3)
      clear g3
      go_wp2_with fail
      refine cA.out.mono ?_
      rintro e w4 ⟨rfl, hb4⟩
      go_wp2
      go_ret
      exact ⟨rfl, b3.trans (hb4.mono b3.size)⟩
    · rw [if_neg he] at cF
      have hem : t2.toList.isEmpty = false := by
        rw [Lib.toList_data]
        cases h : t2.data.toList with
        | nil => exact absurd h he
        | cons _ _ => rfl
      have CF := Lib.hid cF
      clear cF he Hop
      go_wp2_with fail
      refine CF.out.mono ?_
      rintro e w3 ⟨A3, n3, c3, rfl, g3⟩
      obtain rfl : n3 = 1 := g3.length
      have T3 := Utf8Tabs_below T2 g3.2.2
      have b3 : Below w.heap.size w w3 := b2.trans (g3.2.2.mono b2.size)
      have m3 := g3.1
      clear g3
      go_wp2_with fail
      have m4 : Nums (w3.alloc (.cells #[.int .i32 65533] 21)) (w3.heap.size + 1) (some ⟨w3.heap.size, 0, none⟩) 1 [65533] := nums_new w3 [65533] 21 1 rfl
      have m5 : Nums (w3.alloc (.cells #[.int .i32 65533] 21)) w3.heap.size A3 1 [65533] := m3.alloc (Nat.le_refl _) _
      refine (same_true A3 (some ⟨w3.heap.size, 0, none⟩) 1 c3 1 _ _ [65533] (w3.alloc (.cells #[.int .i32 65533] 21)) (by decide) m5 m4).mono ?_
      rintro e w4 ⟨rfl, m, rfl⟩
      have b4 := below_drewN (b3.alloc b3.size (.cells #[.int .i32 65533] 21)) m
      have T4 : Lib.Utf8Tabs 0 1 ((w3.alloc (.cells #[.int .i32 65533] 21)).drewN m) := Utf8Tabs_below T3 (below_drewN ((Below.refl _ _).alloc (Nat.le_refl _) _) m)
      generalize (w3.alloc (.cells #[.int .i32 65533] 21)).drewN m = w4 at b4 T4 ⊢
      have cA := Lib.hid (awake_true w4 T4)
      go_wp2_with fail
      refine cA.out.mono ?_
      rintro e w5 ⟨rfl, hb5⟩
      go_wp2
      go_ret
      exact ⟨rfl, b4.trans (hb5.mono b4.size)⟩

end Go.Proofs.YtbhhadifhojlbaaDoor
