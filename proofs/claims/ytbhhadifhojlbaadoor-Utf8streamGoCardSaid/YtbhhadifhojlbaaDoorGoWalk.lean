/-
  The statement that compares the numbers of a valid string with Go's own conversion returns true, for every string.
-/
import Derived.Test.YtbhhadifhojlbaaDoorEncWalk
namespace Go.Proofs.YtbhhadifhojlbaaDoor
open Go.RowKit Go.Shelf

/-- Go's conversion of a valid string to a slice of numbers: a new row that reads as the string's numbers. -/
theorem runes_of_valid (s : ByteArray) (xs : List Int) (hs : s.size ≤ 300) (hv : Lib.validD s.data.toList = true) (hx : (U8.run s.data.toList).1 = xs) :
    ∃ (G : World → Nat) (O : World → Obj), (∀ W : World, (convert 9 23 (.string s)).run Tryd.prog W = .ok (.slice (some ⟨W.heap.size, 0, none⟩) xs.length (G W)) ((W.alloc (O W)).drew)) ∧
      ∀ W : World, Nums ((W.alloc (O W)).drew) (W.heap.size + 1) (some ⟨W.heap.size, 0, none⟩) xs.length xs := by
  have hr := U8.runes_valid s hv
  rw [hx] at hr
  have hn : (Conv.runesFrom s s.size 0 #[]).size = xs.length := by rw [hr]; simp
  have hl : xs.length ≤ 300 := by rw [← hx]; exact Nat.le_trans (U8.run_out_le _) (by rw [← Lib.size_eq]; exact hs)
  refine ⟨fun W => grownCap W xs.length 0 21, fun W => .cells ((xs.map (Value.int .i32)).toArray ++ Array.replicate (grownCap W xs.length 0 21 - xs.length) (.int .i32 0)) 21, fun W => ?_, fun W => ?_⟩
  · have := run_runes_of_string (P := Tryd.prog) W 9 23 21 s Tryd.underlying9 Tryd.underlying23 Tryd.underlying21 (by rw [hn]; omega)
    rw [hn, hr] at this
    exact this
  · refine ⟨rfl, fun j hj => ⟨W.heap.size, 0, rfl, by omega, ?_⟩⟩
    have e : (W.alloc (.cells ((xs.map (Value.int .i32)).toArray ++ Array.replicate (grownCap W xs.length 0 21 - xs.length) (.int .i32 0)) 21)).heap[W.heap.size]? = some (.cells ((xs.map (Value.int .i32)).toArray ++ Array.replicate (grownCap W xs.length 0 21 - xs.length) (.int .i32 0)) 21) := heap_alloc_new W _
    rw [Nat.zero_add]
    show (W.alloc _).cell? _ = _
    unfold World.cell?
    rw [e]
    simp [hj, Array.getElem?_append]

set_option maxHeartbeats 1000000 in
set_option maxRecDepth 100000 in
theorem go_walk (s : ByteArray) (w : World) (hs : s.size ≤ 140737488351232) (hT : Lib.Utf8Tabs 0 1 w) :
    Calls Tryd.prog 9 #[.string s] w fun e w' => e = .returned (.bool true) ∧ Below w.heap.size w w' := by
  by_cases hbig : 300 < s.size
  · have hbz : (300 : Int) < (s.size : Int) := by omega
    have cA := Lib.hid (awake_true w hT)
    go_enter Tryd.func9, Tryd.ntmps9
    go_wp2_with fail
    refine cA.out.mono ?_
    rintro e w1 ⟨rfl, hb⟩
    go_wp2
    go_ret
    exact ⟨rfl, hb⟩
  · have hbz : ¬ (300 : Int) < (s.size : Int) := by omega
    have cV := valid_any s w hs hT
    obtain ⟨V, hV⟩ : ∃ V, Lib.validD s.data.toList = V := ⟨_, rfl⟩
    rw [hV] at cV
    have CV := Lib.hid cV
    clear cV
    cases V
    · clear hV
      go_enter Tryd.func9, Tryd.ntmps9
      go_wp2_with fail
      refine CV.out.mono ?_
      rintro e w1 ⟨rfl, b1⟩
      have cA := Lib.hid (awake_true w1 (Utf8Tabs_below hT b1))
      go_wp2_with fail
      refine cA.out.mono ?_
      rintro e w2 ⟨rfl, hb⟩
      go_wp2
      go_ret
      exact ⟨rfl, b1.trans (hb.mono b1.size)⟩
    · obtain ⟨xs, hxs⟩ : ∃ xs, (U8.run s.data.toList).1 = xs := ⟨_, rfl⟩
      obtain ⟨G, O, hcv, hO⟩ := runes_of_valid s xs (by omega) hV hxs
      obtain ⟨hp, hq⟩ := (U8.valid_iff s.data.toList).1 hV
      rw [hxs] at hq
      have hE : runesBytes xs = s := ext_bytes (by rw [U8.bytes_encL, hq])
      have HO := Lib.hid hO
      have HP := Lib.hid (And.intro hp (And.intro hE hxs))
      have hxl : xs.length ≤ 300 := by rw [← hxs]; exact Nat.le_trans (U8.run_out_le _) (by rw [← Lib.size_eq]; omega)
      clear hV hO hp hq hE hxs
      go_enter Tryd.func9, Tryd.ntmps9
      go_wp2_with fail
      refine CV.out.mono ?_
      rintro e w1 ⟨rfl, b1⟩
      have T1 := Utf8Tabs_below hT b1
      go_wp2_with fail
      refine (decode_gives_fresh s w1 (by omega) T1).mono ?_
      rintro e w2 ⟨A2, n2, c2, t2, rfl, ht2, g2⟩
      obtain rfl : t2 = ⟨#[]⟩ := ext_bytes (by rw [ht2, HP.out.1])
      have T2 := Utf8Tabs_below T1 g2.2.2
      have b2 : Below w.heap.size w w2 := b1.trans (g2.2.2.mono b1.size)
      have m2 := g2.1
      rw [HP.out.2.2] at m2
      obtain rfl : n2 = xs.length := m2.1.symm
      clear g2 ht2 T1
      go_wp2_with fail
      have n1 := HO.out w2
      have n2 : Nums ((w2.alloc (O w2)).drew) w2.heap.size A2 xs.length xs := m2.alloc (Nat.le_refl _) (O w2)
      refine (same_true A2 (some ⟨w2.heap.size, 0, none⟩) xs.length c2 (G w2) _ _ xs ((w2.alloc (O w2)).drew) (by omega) n2 n1).mono ?_
      rintro e w3 ⟨rfl, m, rfl⟩
      have b3 : Below w.heap.size w (((w2.alloc (O w2)).drew).drewN m) := below_drewN (b2.alloc b2.size (O w2)).drew m
      have T3 : Lib.Utf8Tabs 0 1 (((w2.alloc (O w2)).drew).drewN m) := Utf8Tabs_below T2 (below_drewN ((Below.refl _ _).alloc (Nat.le_refl _) (O w2)).drew m)
      generalize ((w2.alloc (O w2)).drew).drewN m = w3 at b3 T3 ⊢
      clear n1 n2 m2 T2
      go_wp2_with fail
      refine (encode_any (some ⟨w3.heap.size, 0, none⟩) xs.length (G w3) (w3.heap.size + 1) xs ((w3.alloc (O w3)).drew) (HO.out w3)).mono ?_
      rintro e w4 ⟨rfl, rfl⟩
      rw [HP.out.2.1]
      have b4 : Below w.heap.size w ((w3.alloc (O w3)).drew) := (b3.alloc b3.size (O w3)).drew
      have T4 : Lib.Utf8Tabs 0 1 ((w3.alloc (O w3)).drew) := Utf8Tabs_below T3 ((Below.refl _ _).alloc (Nat.le_refl _) (O w3)).drew
      have cA := Lib.hid (awake_true _ T4)
      go_wp2_with fail
      refine cA.out.mono ?_
      rintro e w5 ⟨rfl, hb5⟩
      go_wp2
      go_ret
      exact ⟨rfl, b4.trans (hb5.mono b4.size)⟩

end Go.Proofs.YtbhhadifhojlbaaDoor
