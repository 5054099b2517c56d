/-
  What Total of charwidth returns, for every slice that reads as a list of numbers.
-/
import Derived.Test.YtllkafgmacngjaaWidth
namespace Go.Proofs.Ytllkafgmacngjaa
open Go.RowKit

/-- The slice of length n at A reads, in the world w, as the numbers xs, and lies below block B. -/
def Nums (w : World) (B : Nat) (A : Option Addr) (n : Nat) (xs : List Int) : Prop :=
  xs.length = n ∧ ∀ j, j < n → ∃ b off, A = some ⟨b, off, none⟩ ∧ b < B ∧ w.cell? ⟨b, off + j, none⟩ = some (.int .i32 (xs.getD j 0))

theorem Nums.keep {w w' : World} {B : Nat} {A : Option Addr} {n : Nat} {xs : List Int} (h : Nums w B A n xs) (hk : ∀ b o, b < B → w'.cell? ⟨b, o, none⟩ = w.cell? ⟨b, o, none⟩) : Nums w' B A n xs :=
  ⟨h.1, fun j hj => by
    obtain ⟨b, off, e, hb, hc⟩ := h.2 j hj
    exact ⟨b, off, e, hb, (hk b _ hb).trans hc⟩⟩
theorem Nums.below {w w' : World} {B B' : Nat} {A : Option Addr} {n : Nat} {xs : List Int} (h : Nums w B A n xs) (hb : Below B' w w') (hB : B ≤ B') : Nums w' B A n xs :=
  h.keep fun b o hlt => hb.cell (p := ⟨b, o, none⟩) (Nat.lt_of_lt_of_le hlt hB)
theorem Nums.more {w : World} {B B' : Nat} {A : Option Addr} {n : Nat} {xs : List Int} (h : Nums w B A n xs) (hB : B ≤ B') : Nums w B' A n xs :=
  ⟨h.1, fun j hj => by
    obtain ⟨b, off, e, hb, hc⟩ := h.2 j hj
    exact ⟨b, off, e, by omega, hc⟩⟩
theorem Nums.alloc {w : World} {B : Nat} {A : Option Addr} {n : Nat} {xs : List Int} (h : Nums w B A n xs) (hB : B ≤ w.heap.size) (o : Obj) : Nums (w.alloc o) B A n xs :=
  h.keep fun b _ hlt => World.cell?_alloc_lt w o _ (by show b < w.heap.size; omega)
theorem Nums.drewN {w : World} {B : Nat} {A : Option Addr} {n : Nat} {xs : List Int} (h : Nums w B A n xs) (k : Nat) : Nums (w.drewN k) B A n xs := h
theorem Nums.of_own {w : World} {base : Nat} {e : TypeId} {A : Option Addr} {n c : Nat} {xs : List Int} (h : w.ownsRow base e 1 (.slice A n c) n (xs.map (Value.int .i32))) : Nums w w.heap.size A n xs := by
  have hl : xs.length = n := by have := h.1; simpa using this
  refine ⟨hl, fun j hj => ?_⟩
  rcases h.2 with ⟨_, h0⟩ | ⟨g, cap, cur, hv, _, hh, _, _, _, ht⟩
  · omega
  · have hA : A = some ⟨g, 0, none⟩ := by injection hv
    have hg : g < w.heap.size := by
      rcases Nat.lt_or_ge g w.heap.size with hlt | hge
      · exact hlt
      · rw [Array.getElem?_eq_none hge] at hh; cases hh
    refine ⟨g, 0, hA, hg, ?_⟩
    have hc : cur[j]? = some (.int .i32 (xs.getD j 0)) := by
      have e1 := congrArg (fun l : List Value => l[j]?) ht
      simp only [Nat.mul_one, List.getElem?_take, if_pos hj, Array.getElem?_toList, List.getElem?_map] at e1
      rw [e1, List.getElem?_eq_getElem (by omega), List.getD_eq_getElem?_getD, List.getElem?_eq_getElem (by omega)]
      rfl
    rw [Nat.zero_add]
    simp [World.cell?, hh, hc]

set_option maxHeartbeats 1000000 in
set_option maxRecDepth 100000 in
theorem total_any (A : Option Addr) (n c B : Nat) (xs : List Int) (w : World) (hB : B ≤ w.heap.size) (hX : Nums w B A n xs) (hbig : n ≤ 1000000) :
    Calls Try.prog 16 #[.slice A n c] w fun e w' => e = .returned (.int .i64 (Cw.total xs)) ∧ Below w.heap.size w w' := by
  go_enter Try.func16, Try.ntmps16
  go_wp2
  go_loopg [3, 8] n (fun gg s3 s8 wr => ∃ (k : Nat) (z : Int), k ≤ n ∧ n - k ≤ gg ∧ s8 = .int .i64 k ∧ s3 = .int .i64 z ∧ Aside (Below w.heap.size w wr) ∧ Aside (z = Cw.total (xs.take k)))
  case atStart => exact ⟨0, 0, Nat.zero_le _, by omega, rfl, rfl, Below.refl _ w, (by simp [Cw.total] : (0 : Int) = Cw.total (xs.take 0))⟩
  case round =>
    obtain ⟨k, z, hk, hg, rfl, rfl, BW, Z⟩ := hrel
    have hlen := hX.1
    have HL := Lib.hid hlen
    clear hlen
    by_cases hkn : k < n
    · have hz : (k : Int) < (n : Int) := by omega
      have hz0 : (0 : Int) ≤ (k : Int) := by omega
      obtain ⟨b, off, rfl, hb, hc⟩ := hX.2 k hkn
      have hc1 := (BW.out.cell (p := ⟨b, off + k, none⟩) (Nat.lt_of_lt_of_le hb hB)).trans hc
      have hbound := Cw.total_take_bounds xs k
      rw [← Z.out] at hbound
      have hstep := Lib.hid (Cw.total_take xs k (by rw [HL.out]; exact hkn))
      have hcs := Cw.wd_cases (xs.getD k 0)
      have hcall := width_any (xs.getD k 0) wr
      have HX := Lib.hid hX
      clear hX hc
      obtain ⟨y, hy⟩ : ∃ y, xs.getD k 0 = y := ⟨_, rfl⟩
      rw [hy] at hc1 hcs hcall hstep
      clear hy
      have hsz := BW.out.size
      rcases hcs with hy | hy | hy | hy
      all_goals
        rw [hy] at hcall hstep
        clear hy
        go_wp2_with (go_at_call 11; refine hcall.mono ?_; rintro e w' ⟨rfl, hb'⟩)
        go_roundg (n - (k + 1))
        case measure => omega
        case rel =>
          refine ⟨k + 1, _, by omega, by omega, by go_num, rfl, BW.out.trans (hb'.mono hsz), ?_⟩
          unfold Aside
          rw [hstep.out, ← Z.out]
          first | rfl | (simp; done) | omega
    · have hz : ¬ (k : Int) < (n : Int) := by omega
      clear hX
      go_wp2
      go_ret
      refine ⟨ret_int ?_, BW.out⟩
      rw [Z.out, List.take_of_length_le (by rw [HL.out]; omega)]

end Go.Proofs.Ytllkafgmacngjaa
