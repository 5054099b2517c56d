/-
  What withoutNegatives returns: a slice of its own with 0 in the place of each negative number.
-/
import Derived.Test.YtdeicbciiabdfaaDoorList
namespace Go.Proofs.YtdeicbciiabdfaaDoor
open Go.RowKit

/-- The numbers of which the first k have been looked at. -/
def half (xs : List Int) (k : Nat) : List Int := At.nn (xs.take k) ++ xs.drop k
theorem half_len (xs : List Int) (k : Nat) : (half xs k).length = xs.length := by unfold half At.nn; simp; omega
theorem half_at (xs : List Int) (k : Nat) (hk : k < xs.length) : (half xs k).getD k 0 = xs.getD k 0 := by
  have hl : (At.nn (xs.take k)).length = k := by unfold At.nn; simp; omega
  unfold half
  rw [List.getD_eq_getElem?_getD, List.getElem?_append_right (by omega), hl, Nat.sub_self, List.getElem?_drop, List.getD_eq_getElem?_getD]
  rfl
theorem half_step (xs : List Int) (k : Nat) (hk : k < xs.length) : (half xs k).set k (max (xs.getD k 0) 0) = half xs (k + 1) := by
  have hl : (At.nn (xs.take k)).length = k := by unfold At.nn; simp; omega
  unfold half
  rw [List.set_append_right _ _ (by omega), hl, Nat.sub_self, List.drop_eq_getElem_cons hk, List.set_cons_zero, List.take_succ_eq_append_getElem hk]
  unfold At.nn
  simp only [List.map_append, List.map_cons, List.map_nil, List.append_assoc, List.singleton_append, List.getD_eq_getElem?_getD, List.getElem?_eq_getElem hk, Option.getD_some]
theorem half_zero (xs : List Int) : half xs 0 = xs := by unfold half At.nn; simp
theorem half_all (xs : List Int) : half xs xs.length = At.nn xs := by unfold half; simp

/-- The slice of the call's own: where it lies, and a store into it. -/
theorem Out.store {w0 w : World} {A : Option Addr} {n cap : Nat} {xs : List Int} (h : Out w0 w (.slice A n cap) xs) (k : Nat) (hk : k < n) :
    ∃ g, A = some ⟨g, 0, none⟩ ∧ w0.heap.size ≤ g ∧ g < w.heap.size ∧ w.cell? ⟨g, k, none⟩ = some (.int .i64 (xs.getD k 0)) ∧ w.frozen? ⟨g, k, none⟩ = false ∧ ∀ z, Out w0 (w.setCell ⟨g, k, none⟩ (.int .i64 z)) (.slice A n cap) (xs.set k z) := by
  obtain ⟨rfl, hN⟩ := h.nums
  have hN' := hN.2 k hk
  rcases h.1.2 with ⟨_, e0⟩ | ⟨g, cap', cur, e, hb, hg, _⟩
  · omega
  · injection e with e1 e2 e3
    subst e1 e3
    refine ⟨g, rfl, hb, ?_, ?_, h.1.frozenAt k, fun z => ?_⟩
    · rcases Nat.lt_or_ge g w.heap.size with h' | h'
      · exact h'
      · rw [Array.getElem?_eq_none h'] at hg; cases hg
    · obtain ⟨b, off, e, _, hc⟩ := hN'
      injection e with e
      injection e with e1 e2
      subst e1 e2
      rw [Nat.zero_add] at hc
      exact hc
    · have hs := (h.1.stored k (.int .i64 z)).1
      refine ⟨?_, h.2.setCell (by show w0.heap.size ≤ g; exact hb) _⟩
      rw [List.length_set, List.map_set]
      exact hs
theorem Out.cap {w0 w : World} {A : Option Addr} {n cap : Nat} {xs : List Int} (h : Out w0 w (.slice A n cap) xs) : n ≤ cap ∧ cap ≤ 9223372036854775807 ∧ ∀ b off, A = some ⟨b, off, none⟩ → w0.heap.size ≤ b := by
  obtain ⟨rfl, hN⟩ := h.nums
  rcases h.1.2 with ⟨e, e0⟩ | ⟨g, cap', cur, e, hb, hg, h1, h2, _⟩
  · injection e with e1 e2 e3
    subst e1 e3
    exact ⟨by omega, by omega, fun b off e => by cases e⟩
  · injection e with e1 e2 e3
    subst e1 e3
    refine ⟨h1, by unfold maxLen at h2; omega, fun b off e => ?_⟩
    injection e with e
    injection e with e1 e2
    omega

set_option maxHeartbeats 1000000 in
set_option maxRecDepth 100000 in
theorem without_any (A : Option Addr) (n c B : Nat) (xs : List Int) (w : World) (hB : B ≤ w.heap.size) (hX : Nums w B A n xs) (hnil : A = none → n = 0 ∧ c = 0) (hn : n ≤ 1000) :
    Calls Tryd.prog 14 #[.slice A n c] w fun e w' => ∃ A' cap, e = .returned (.slice A' n cap) ∧ Out w w' (.slice A' n cap) (At.nn xs) := by
  have hcl := Lib.hid (clone_any A n c B xs w hB hX hnil hn)
  have hlx := Lib.hid hX.1
  clear hX hnil
  go_enter Tryd.func14, Tryd.ntmps14
  go_wp2_with fail
  refine hcl.out.mono ?_
  rintro e w1 ⟨v, rfl, hout⟩
  obtain ⟨A1, n1, cap, rfl, hr⟩ := hout.reads
  obtain rfl : n1 = n := by have := hr.1; have := hlx.out; omega
  clear hr hcl
  have HO := Lib.hid hout
  clear hout
  go_wp2
  go_loopg [4, 5, 10] n1 (fun gg _ _ s10 wr => ∃ k : Nat, k ≤ n1 ∧ n1 - k ≤ gg ∧ s10 = .int .i64 k ∧ Aside (Out w wr (.slice A1 n1 cap) (half xs k)))
  case atStart => exact ⟨0, by omega, by omega, rfl, (by rw [half_zero]; exact HO.out : Out w w1 (.slice A1 n1 cap) (half xs 0))⟩
  case round =>
    obtain ⟨k, hk, hg, rfl, OW⟩ := hrel
    by_cases hkn : k < n1
    · have hz : (k : Int) < (n1 : Int) := by omega
      have hz0 : (0 : Int) ≤ (k : Int) := by omega
      obtain ⟨g, hA, hg1, hg2, hc, hf, hst⟩ := OW.out.store k hkn
      have hkl : k < xs.length := by have := hlx.out; omega
      rw [half_at xs k hkl] at hc
      have HS : Hid (Out w (wr.setCell ⟨g, k, none⟩ (.int .i64 (max (xs.getD k 0) 0))) (.slice A1 n1 cap) (half xs (k + 1))) := Lib.hid (by have := hst (max (xs.getD k 0) 0); rwa [half_step xs k hkl] at this)
      clear hst
      generalize xs.getD k 0 = x at hc HS
      have HSA := HS
      subst hA
      by_cases hx : x < 0
      · have em : max x 0 = 0 := by omega
        rw [em] at HS
        go_wp2
        go_roundg (n1 - (k + 1))
        case measure => omega
        case rel => exact ⟨k + 1, by omega, by omega, by go_num, HS.out⟩
      · have em : max x 0 = x := by omega
        rw [em] at HS
        go_wp2
        go_roundg (n1 - (k + 1))
        case measure => omega
        case rel => exact ⟨k + 1, by omega, by omega, by go_num, HS.out⟩
    · have hz : ¬ (k : Int) < (n1 : Int) := by omega
      obtain rfl : k = n1 := by omega
      go_wp2
      go_ret
      refine ⟨A1, cap, rfl, ?_⟩
      have := OW.out
      rwa [← hlx.out, half_all, hlx.out] at this

end Go.Proofs.YtdeicbciiabdfaaDoor
