/-
  What utf8stream.Encode and utf8stream.Valid return; the statements on valid strings.
-/
import Derived.Test.YtbhhadifhojlbaaDoorSplitWalk
import Derived.Test.YtbhhadifhojlbaaDoorEncThree
namespace Go.Proofs.YtbhhadifhojlbaaDoor
open Go.RowKit Go.Shelf

theorem run_runes_string (W : World) (B : Nat) (A : Option Addr) (n c : Nat) (xs : List Int) (h : Nums W B A n xs) : (convert 23 9 (.slice A n c)).run Tryd.prog W = .ok (.string (runesBytes xs)) W := by
  cases A with
  | none =>
    have hx : xs = [] := by
      rcases Nat.eq_zero_or_pos n with h0 | h0
      · exact List.eq_nil_of_length_eq_zero (h.1.trans h0)
      · obtain ⟨b, off, e, _⟩ := h.2 0 h0; cases e
    subst hx
    exact run_convert_runes_nil W 23 9 21 n c Tryd.underlying23 Tryd.underlying21 Tryd.underlying9
  | some ad =>
    have hc : ∀ j, j < xs.length → W.cell? (ad.add j) = some (.int .i32 (xs.getD j 0)) := fun j hj => by
      obtain ⟨b, off, e, _, hc⟩ := h.2 j (by rw [← h.1]; exact hj)
      injection e with e
      subst e
      by_cases h0 : j = 0
      · subst h0; simpa [Addr.add] using hc
      · simpa [Addr.add, h0] using hc
    have := run_convert_runes (P := Tryd.prog) W 23 9 21 ad n c xs (by rw [h.1]; exact Nat.le_refl _) Tryd.underlying23 Tryd.underlying21 Tryd.underlying9 hc
    rw [List.take_of_length_le (by rw [h.1]; exact Nat.le_refl _)] at this
    exact this

theorem encode_any (A : Option Addr) (n c B : Nat) (xs : List Int) (w : World) (h : Nums w B A n xs) :
    Calls Tryd.prog 17 #[.slice A n c] w fun e w' => e = .returned (.string (runesBytes xs)) ∧ w = w' := by
  have hr := run_runes_string w B A n c xs h
  generalize runesBytes xs = t at hr
  go_enter Tryd.func17, Tryd.ntmps17
  go_wp2
  go_ret
  exact ⟨rfl, rfl⟩

theorem valid_any (s : ByteArray) (w : World) (hs : s.size ≤ 140737488351232) (hT : Lib.Utf8Tabs 0 1 w) :
    Calls Tryd.prog 19 #[.string s] w fun e w' => e = .returned (.bool (Lib.validD s.data.toList)) ∧ Below w.heap.size w w' := by
  have cV := Lib.hid (Tryd.utf8_ValidString s w (by omega) hT)
  go_enter Tryd.func19, Tryd.ntmps19
  go_wp2_with (go_at_call 27; refine cV.out.mono ?_; rintro e w1 ⟨rfl, hb⟩)
  go_ret
  exact ⟨rfl, hb⟩

set_option maxHeartbeats 1000000 in
set_option maxRecDepth 100000 in
theorem canonical_walk (s : ByteArray) (w : World) (hs : s.size ≤ 140737488351232) (hT : Lib.Utf8Tabs 0 1 w) :
    Calls Tryd.prog 7 #[.string s] w fun e w' => e = .returned (.bool true) ∧ Below w.heap.size w w' := by
  by_cases hbig : 300 < s.size
  · have hbz : (300 : Int) < (s.size : Int) := by omega
    have cA := Lib.hid (awake_true w hT)
    go_enter Tryd.func7, Tryd.ntmps7
    go_wp2_with fail
    refine cA.out.mono ?_
    rintro e w1 ⟨rfl, hb⟩
    go_wp2
    go_ret
    exact ⟨rfl, hb⟩
  · have hbz : ¬ (300 : Int) < (s.size : Int) := by omega
    go_enter Tryd.func7, Tryd.ntmps7
    go_wp2_with fail
    refine (decode_gives_fresh s w (by omega) hT).mono ?_
    rintro e w1 ⟨A1, n1, c1, t1, rfl, ht1, g1⟩
    have T1 := Utf8Tabs_below hT g1.2.2
    have b1 := g1.2.2
    have m1 := g1.1
    have HV := Lib.hid (U8.valid_iff s.data.toList)
    have H1 := Lib.hid ht1
    clear ht1 g1
    go_wp2_with fail
    refine (valid_any s w1 hs T1).mono ?_
    rintro e w2 ⟨rfl, b2⟩
    have T2 := Utf8Tabs_below T1 b2
    have m2 : Nums w2 w1.heap.size A1 n1 (U8.run s.data.toList).1 := m1.below b2 (Nat.le_refl _)
    have b3 : Below w.heap.size w w2 := b1.trans (b2.mono b1.size)
    have cA := Lib.hid (awake_true w2 T2)
    have cE := Lib.hid (encode_any A1 n1 c1 w1.heap.size (U8.run s.data.toList).1 w2 m2)
    have HB := Lib.hid (U8.bytes_encL (U8.run s.data.toList).1)
    generalize runesBytes (U8.run s.data.toList).1 = E at cE HB
    clear m1 m2 T1 b1 b2
    obtain ⟨V, hV⟩ : ∃ V, Lib.validD s.data.toList = V := ⟨_, rfl⟩
    rw [hV] at HV ⊢
    clear hV
    by_cases hp : (U8.run s.data.toList).2 = []
    · obtain rfl : t1 = ⟨#[]⟩ := ext_bytes (by rw [H1.out, hp])
      by_cases hq : U8.encL (U8.run s.data.toList).1 = s.data.toList
      · obtain rfl : V = true := HV.out.2 ⟨hp, hq⟩
        obtain rfl : E = s := ext_bytes (by rw [HB.out, hq])
        clear HV H1 hp hq HB
        go_wp2_with fail
        refine cE.out.mono ?_
        rintro e w3 ⟨rfl, rfl⟩
        go_wp2_with fail
        refine cA.out.mono ?_
        rintro e w4 ⟨rfl, hb4⟩
        go_wp2
        go_ret
        exact ⟨rfl, b3.trans (hb4.mono b3.size)⟩
      · obtain rfl : V = false := by
          cases V
          · rfl
          · exact absurd (HV.out.1 rfl).2 hq
        have hne : (E.toList == s.toList) = false := by
          rw [Lib.toList_data, Lib.toList_data, HB.out]
          simpa using hq
        clear HV H1 hp hq HB
        go_wp2_with fail
        refine cE.out.mono ?_
        rintro e w3 ⟨rfl, rfl⟩
        go_wp2_with fail
        refine cA.out.mono ?_
        rintro e w4 ⟨rfl, hb4⟩
        go_wp2
        go_ret
        exact ⟨rfl, b3.trans (hb4.mono b3.size)⟩
    · obtain rfl : V = false := by
        cases V
        · rfl
        · exact absurd (HV.out.1 rfl).1 hp
      have hem : t1.toList.isEmpty = false := by
        rw [Lib.toList_data, H1.out]
        cases h : (U8.run s.data.toList).2 with
        | nil => exact absurd h hp
        | cons _ _ => rfl
      clear HV H1 hp HB cE
      go_wp2_with fail
      refine cA.out.mono ?_
      rintro e w4 ⟨rfl, hb4⟩
      go_wp2
      go_ret
      exact ⟨rfl, b3.trans (hb4.mono b3.size)⟩

end Go.Proofs.YtbhhadifhojlbaaDoor
