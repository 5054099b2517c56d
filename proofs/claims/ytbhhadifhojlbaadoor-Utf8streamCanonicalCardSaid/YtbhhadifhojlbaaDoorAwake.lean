/-
  What utf8stream.Finish returns, for every string of at most 1000 bytes, and that the chapter's example holds.
-/
import Derived.Test.YtbhhadifhojlbaaDoorDecode
namespace Go.Proofs.YtbhhadifhojlbaaDoor
open Go.RowKit Go.Shelf

theorem decode_fresh (c : ByteArray) (w : World) (hsz : c.size ≤ 1000) (hT : Lib.Utf8Tabs 0 1 w) :
    Calls Tryd.prog 12 #[.string { data := #[] }, .string c] w (Decoded w c.data.toList) :=
  decode_any { data := #[] } c w (by show 0 + c.size ≤ 1000; omega) hT

/-- What Finish leaves. -/
def Ended (w : World) (xs : List Int) (e : Ending) (w' : World) : Prop :=
  ∃ A cap, e = .returned (.slice A xs.length cap) ∧ Out w w' (.slice A xs.length cap) xs

set_option maxHeartbeats 400000 in
set_option maxRecDepth 100000 in
theorem finish_any (p : ByteArray) (w : World) (hsz : p.size ≤ 1000) (hT : Lib.Utf8Tabs 0 1 w) :
    Calls Tryd.prog 15 #[.string p] w (Ended w (U8.ended p.data.toList)) := by
  have cD := decode_fresh p w hsz hT
  have hle := U8.run_out_le p.data.toList
  rw [← Lib.size_eq] at hle
  have HE : Hid (U8.ended p.data.toList = if (U8.run p.data.toList).2 = [] then (U8.run p.data.toList).1 else (U8.run p.data.toList).1 ++ [65533]) := Lib.hid rfl
  obtain ⟨x, hx⟩ : ∃ x, U8.ended p.data.toList = x := ⟨_, rfl⟩
  rw [hx] at HE ⊢
  unfold Decoded at cD
  generalize U8.run p.data.toList = r at cD HE hle
  obtain ⟨o, q⟩ := r
  simp only at cD hle
  have HE2 : Hid (x = if q = [] then o else o ++ [65533]) := HE
  have HD := Lib.hid cD
  clear cD HE hx
  by_cases hq : q = []
  · subst hq
    go_enter Tryd.func15, Tryd.ntmps15
    go_wp2_with (go_at_call 12; refine HD.out.mono ?_; rintro e w1 ⟨A, cap, rfl, hout⟩)
    go_ret
    obtain rfl : x = o := by simpa using HE2.out
    exact ⟨A, cap, rfl, hout⟩
  · have hne : (!q.isEmpty) = true := by
      cases q with
      | nil => exact absurd rfl hq
      | cons a l => rfl
    go_enter Tryd.func15, Tryd.ntmps15
    go_wp2_with (first | (go_at_call 12; refine HD.out.mono ?_; rintro e w1 ⟨A, cap, rfl, hout⟩) | (at_builtin; refine wpList_push rfl (.tmp 12) (.tmp 13) rfl w w1 _ o 65533 rfl rfl hout (by omega) ?_; intro v1 w2 hout2))
    go_ret
    have e : x = o ++ [65533] := by rw [HE2.out, if_neg hq]
    obtain ⟨A2, cap2, hA⟩ := hout2.slice
    unfold Ended
    rw [e]
    rw [hA] at hout2 ⊢
    exact ⟨A2, cap2, rfl, hout2⟩

/-- A slice that was just laid reads as its numbers. -/
theorem nums_new (w : World) (xs : List Int) (t : TypeId) (n : Nat) (hn : xs.length = n) : Nums (w.alloc (.cells (xs.map (Value.int .i32)).toArray t)) (w.heap.size + 1) (some ⟨w.heap.size, 0, none⟩) n xs := by
  refine ⟨hn, fun j hj => ⟨w.heap.size, 0, rfl, by omega, ?_⟩⟩
  have hx : j < xs.length := by omega
  rw [Nat.zero_add]
  have e : (w.alloc (.cells (xs.map (Value.int .i32)).toArray t)).heap[w.heap.size]? = some (.cells (xs.map (Value.int .i32)).toArray t) := heap_alloc_new w _
  unfold World.cell?
  rw [e]
  simp [hx]

theorem run_first : U8.run [226, 130, 97, 226] = ([65533, 97], [226]) := by decide
theorem run_second : U8.run [226, 130, 172] = ([8364], []) := by decide

set_option maxHeartbeats 400000 in
set_option maxRecDepth 100000 in
/-- The example of the chapter holds. -/
theorem awake_true (w : World) (hT : Lib.Utf8Tabs 0 1 w) : Calls Tryd.prog 11 #[] w fun e w' => e = .returned (.bool true) ∧ Below w.heap.size w w' := by
  have c1 : ∀ W, Lib.Utf8Tabs 0 1 W → Calls Tryd.prog 12 #[.string { data := #[] }, .string { data := #[226, 130, 97, 226] }] W fun e w' => ∃ A cap, e = .returned (.tuple #[.slice A 2 cap, .string { data := #[226] }]) ∧ Out W w' (.slice A 2 cap) [65533, 97] := fun W h => by
    have := decode_fresh { data := #[226, 130, 97, 226] } W (by decide) h
    unfold Decoded at this
    simp only [run_first] at this
    exact this
  have c2 : ∀ W, Lib.Utf8Tabs 0 1 W → Calls Tryd.prog 12 #[.string { data := #[226] }, .string { data := #[130, 172] }] W fun e w' => ∃ A cap, e = .returned (.tuple #[.slice A 1 cap, .string { data := #[] }]) ∧ Out W w' (.slice A 1 cap) [8364] := fun W h => by
    have := decode_any { data := #[226] } { data := #[130, 172] } W (by decide) h
    unfold Decoded at this
    simp only [List.cons_append, List.nil_append, run_second] at this
    exact this
  have C1 := Lib.hid c1
  have C2 := Lib.hid c2
  clear c1 c2
  go_enter Tryd.func11, Tryd.ntmps11
  go_wp2_with fail
  refine (C1.out w hT).mono ?_
  rintro e w1 ⟨A1, cap1, rfl, hout1⟩
  go_wp2_with fail
  refine (C2.out w1 (Utf8Tabs_below hT hout1.2)).mono ?_
  rintro e w2 ⟨A2, cap2, rfl, hout2⟩
  go_wp2_with fail
  have b1 : Below w.heap.size w w2 := hout1.2.trans (hout2.2.mono hout1.2.size)
  have n1 : Nums w2 w1.heap.size A1 2 [65533, 97] := hout1.nums.2.below hout2.2 (Nat.le_refl _)
  have n2 : Nums w2 w2.heap.size A2 1 [8364] := hout2.nums.2
  have s1 := hout2.2.size
  clear hout1 hout2 hT C1 C2
  have n4 : Nums (w2.alloc (.cells #[.int .i32 65533, .int .i32 97] 21)) (w2.heap.size + 1) (some ⟨w2.heap.size, 0, none⟩) 2 [65533, 97] := nums_new w2 [65533, 97] 21 2 rfl
  have n5 : Nums (w2.alloc (.cells #[.int .i32 65533, .int .i32 97] 21)) w1.heap.size A1 2 [65533, 97] := n1.alloc s1 _
  refine (same_true A1 (some ⟨w2.heap.size, 0, none⟩) 2 cap1 2 _ _ [65533, 97] (w2.alloc (.cells #[.int .i32 65533, .int .i32 97] 21)) (by decide) n5 n4).mono ?_
  rintro e w3 ⟨rfl, m, rfl⟩
  have b2 : Below w.heap.size w ((w2.alloc (.cells #[.int .i32 65533, .int .i32 97] 21)).drewN m) := below_drewN (b1.alloc b1.size _) m
  have n3 : Nums ((w2.alloc (.cells #[.int .i32 65533, .int .i32 97] 21)).drewN m) w2.heap.size A2 1 [8364] := (n2.alloc (Nat.le_refl _) _).drewN m
  have s2 : w2.heap.size ≤ ((w2.alloc (.cells #[.int .i32 65533, .int .i32 97] 21)).drewN m).heap.size := by simp
  generalize (w2.alloc (.cells #[.int .i32 65533, .int .i32 97] 21)).drewN m = w3 at b2 n3 s2 ⊢
  go_wp2_with fail
  have n6 : Nums (w3.alloc (.cells #[.int .i32 8364] 21)) (w3.heap.size + 1) (some ⟨w3.heap.size, 0, none⟩) 1 [8364] := nums_new w3 [8364] 21 1 rfl
  have n7 : Nums (w3.alloc (.cells #[.int .i32 8364] 21)) w2.heap.size A2 1 [8364] := n3.alloc s2 _
  refine (same_true A2 (some ⟨w3.heap.size, 0, none⟩) 1 cap2 1 _ _ [8364] (w3.alloc (.cells #[.int .i32 8364] 21)) (by decide) n7 n6).mono ?_
  rintro e w4 ⟨rfl, m4, rfl⟩
  go_wp2
  go_ret
  exact ⟨rfl, below_drewN (b2.alloc b2.size _) m4⟩

end Go.Proofs.YtbhhadifhojlbaaDoor
