/-
  Small facts that the walks of the statements of layer 12 share.
-/
import Derived.Test.YtgmgnlgolhjhmaaDoorSbAwake
import Derived.Test.YtgmgnlgolhjhmaaDoorGrMore
namespace Go.Proofs.YtgmgnlgolhjhmaaDoor
open Go.RowKit Go.Shelf Cr Gd

/-- The end of a slice of rows, as the program writes its address. -/
theorem RdR.tailA {w : World} {ad : Addr} {n c i : Nat} {L : List (List C)} (h : RdR w (some ad) n L) (hi : i ≤ n) (hc : n ≤ c) {R : Option Addr} (hR : (if c = i then some ad else some (ad.add i)) = R) : RdR w R (n - i) (L.drop i) := by
  have hl : L.length = n := h.1
  by_cases e : i = n
  · subst e
    rw [Nat.sub_self, List.drop_of_length_le (by omega)]
    exact RdR.nil _ _
  · obtain ⟨b, off, e2⟩ := h.addr (by omega)
    injection e2 with e2
    subst e2
    rw [addr_add] at hR
    exact h.tail hi hc hR
theorem Sz.push {L M : List (List C)} (a : Sz L) (b : Sz M) : Sz (Sb.push L M) := Sz.trim (Sz.app a b) 500
theorem GR.nilz {w0 w : World} {A : Option Addr} {n c : Nat} {L : List (List C)} (h : GR w0 w (.slice A n c) L) : A = none → c = 0 := fun e => (h.rd.2.1 e).2
/-- What a window that is no error is. -/
theorem winR_fine {L G : List (List C)} {W H back : Int} (hl : SmR L) (hg : SmR G) (h : (winR L W H G back).E = 0) : gE (winR L W H G back).W (winR L W H G back).H (winR L W H G back).L = 0 ∧ SmR (winR L W H G back).L := by
  unfold winR at h ⊢
  split at h
  · cases h
  · rename_i h1
    rw [if_neg h1]
    split at h
    · cases h
    · rename_i h2
      rw [if_neg h2]
      split at h
      · rename_i h3; exact absurd h h3
      · rename_i h3
        rw [if_neg h3]
        obtain ⟨v, k, rfl, rfl, g⟩ := gE_good (show gE W H G = 0 by omega)
        obtain ⟨bk, rfl⟩ : ∃ bk : Nat, back = (bk : Int) := ⟨back.toNat, by omega⟩
        have hc : ∀ y ∈ Sb.seen L (k : Int) (bk : Int), check y = 0 := (Sb.errs_zero check _).1 (by omega)
        have hsee : ∀ y ∈ Sb.seen L (k : Int) (bk : Int), y ∈ L := fun y hy => List.mem_of_mem_drop (List.mem_of_mem_take hy)
        refine ⟨good_gE (L := Sb.rows (fun l => fit l v) L G (k : Int) (bk : Int)) ⟨g.1, g.2.1, g.2.2.1, g.2.2.2.1, ?_, fun l hl' => ?_⟩, fun l hl' => ?_⟩
        · have := Sb.rows_length (fun l => fit l v) L G (k : Int) (bk : Int) (by omega) (by omega) (by rw [g.2.2.2.2.1])
          omega
        · unfold Sb.rows at hl'
          rcases List.mem_append.1 hl' with hl' | hl'
          · obtain ⟨x, hx, rfl⟩ := List.mem_map.1 hl'
            exact ⟨fit_length _ _, fit_Pr (check_zero.1 (hc x hx)).2.2 _⟩
          · exact g.2.2.2.2.2 l (List.mem_of_mem_take hl')
        · unfold Sb.rows at hl'
          rcases List.mem_append.1 hl' with hl' | hl'
          · obtain ⟨x, hx, rfl⟩ := List.mem_map.1 hl'
            exact (hl x (hsee x hx)).fit _
          · exact hg l (List.mem_of_mem_take hl')
theorem winR_sz {L G : List (List C)} {W H back : Int} (hl : SmR L) (hg : SmR G) : Sz (winR L W H G back).L ∧ (winR L W H G back).L.length ≤ 60 := by
  by_cases h : (winR L W H G back).E = 0
  · obtain ⟨h1, _⟩ := winR_fine hl hg h
    obtain ⟨v, k, _, _, g⟩ := gE_good h1
    exact ⟨fun l hl => by have := g.2.2.2.2.2 l hl; have := g.2.1; omega, by have := g.2.2.2.2.1; have := g.2.2.2.1; omega⟩
  · have : (winR L W H G back).L = [] := by
      unfold winR at h ⊢
      split
      · rfl
      · split
        · rfl
        · split
          · rfl
          · rename_i h1 h2 h3
            rw [if_neg h1, if_neg h2, if_neg h3] at h
            exact absurd rfl h
    rw [this]
    exact ⟨(fun l hl => by cases hl), (by simp)⟩

end Go.Proofs.YtgmgnlgolhjhmaaDoor
