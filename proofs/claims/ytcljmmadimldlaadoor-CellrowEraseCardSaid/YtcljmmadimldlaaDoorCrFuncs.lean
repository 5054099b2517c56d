/-
  What replace, cellsOf, Blank and Text of cellrow return.
-/
import Derived.Test.YtcljmmadimldlaaDoorCrSep
import Derived.Test.YtcljmmadimldlaaDoorCrText
import Derived.Test.YtcljmmadimldlaaDoorFuncs
import Derived.Deep.RegionHeld3
namespace Go.Proofs.YtcljmmadimldlaaDoor
open Go.RowKit Go.Shelf Cr

/-- What a call that began in w leaves: a slice that reads as the cells l. -/
def GivesC (w w' : World) (A : Option Addr) (n c : Nat) (l : List C) : Prop := Rd w' A n l ∧ ((A = none → n = 0 ∧ c = 0) ∧ n ≤ c) ∧ Below w.heap.size w w'
theorem Mine.cap {w w' : World} {A : Option Addr} {n c : Nat} {l : List C} (h : Mine w w' (.slice A n c) l) : n ≤ c := by
  rcases h.2 with h' | ⟨b, off, e, h'⟩
  · rcases Own.slice ⟨h', h.1⟩ with ⟨e, _⟩ | ⟨g, cap, e, _, _, hc⟩
    · injection e with _ e2 e3
      omega
    · injection e with _ e2 e3
      omega
  · injection e with _ e2 e3
    omega
theorem Mine.gives {w w' : World} {A : Option Addr} {n c : Nat} {l : List C} (h : Mine w w' (.slice A n c) l) : GivesC w w' A n c l := ⟨h.rd.1, ⟨h.rd.2, h.cap⟩, h.1⟩
theorem GivesC.rebase {w0 w w' : World} {A : Option Addr} {n c : Nat} {l : List C} (h : GivesC w w' A n c l) (hb : Below w0.heap.size w0 w) : GivesC w0 w' A n c l := ⟨h.1, h.2.1, hb.trans (h.2.2.mono hb.size)⟩

theorem Mine.full {w : World} {b off n : Nat} {l : List C} (h : Rd w (some ⟨b, off, none⟩) n l) : Mine w w (.slice (some ⟨b, off, none⟩) n n) l := by
  have e := h.1
  subst e
  exact ⟨Below.refl _ _, .inr ⟨b, off, rfl, h⟩⟩
/-- The end of a slice, cut off. -/
theorem Rd.tail {w : World} {g n j : Nat} {l : List C} (h : Rd w (some ⟨g, 0, none⟩) n l) (hj : j ≤ n) {R : Option Addr} (hR : (if n = j then some ⟨g, 0, none⟩ else some ⟨g, j * 5, none⟩) = R) : Rd w R (n - j) (l.drop j) := by
  by_cases e : n = j
  · subst e
    rw [Nat.sub_self, List.drop_of_length_le (by rw [h.1]; exact Nat.le_refl _)]
    exact Rd.nil _ _
  · rw [if_neg e] at hR
    subst hR
    have := h.part j n hj (Nat.le_refl _)
    rw [Nat.zero_add, List.take_of_length_le (by rw [List.length_drop, h.1]; exact Nat.le_refl _)] at this
    exact this
theorem Rd.head {w : World} {g n i : Nat} {l : List C} (h : Rd w (some ⟨g, 0, none⟩) n l) (hi : i ≤ n) : Rd w (some ⟨g, 0, none⟩) i (l.take i) := by
  have := h.part 0 i (Nat.zero_le _) hi
  simpa using this
theorem tail_some {n j g : Nat} {R : Option Addr} (hR : (if n = j then some ⟨g, 0, none⟩ else some ⟨g, j * 5, none⟩) = R) (e : R = none) (c : Nat) : n - j = 0 ∧ c = 0 := by
  split at hR <;> (subst hR; cases e)

set_option maxHeartbeats 2000000 in
set_option maxRecDepth 100000 in
theorem replace_any (b off n c : Nat) (l : List C) (hn : n ≤ 1000) (hp : Pr l) (i j : Nat) (hij : i ≤ j) (hj : j ≤ n) (A : Option Addr) (m cc : Nat) (cs : List C) (hm : m ≤ 1000) (w : World) (hr : Rd w (some ⟨b, off, none⟩) n l) (hc : Rd w A m cs) (hnil : A = none → m = 0 ∧ cc = 0) :
    Calls Tryd.prog 44 #[.slice (some ⟨b, off, none⟩) n c, .int .i64 (i : Int), .int .i64 (j : Int), .slice A m cc] w fun e w' => ∃ A' n' c', e = .returned (.slice A' n' c') ∧ GivesC w w' A' n' c' (repl l i j cs) := by
  have hl : l.length = n := hr.1
  obtain ⟨w0, hw0⟩ : ∃ w0, w.alloc (.cells #[.int .i64 (i : Int), .int .i64 (j : Int)] 3) = w0 := ⟨_, rfl⟩
  have b0 : Below w.heap.size w w0 := by rw [← hw0]; exact (Below.refl _ _).alloc (Nat.le_refl _) _
  have hcols : Cols w0 w.heap.size [i, j] := by
    refine ⟨by rw [← hw0]; simp, fun q k hq => ?_⟩
    have hh : w0.heap[w.heap.size]? = some (.cells #[.int .i64 (i : Int), .int .i64 (j : Int)] 3) := by rw [← hw0]; exact heap_alloc_new w _
    match q, hq with
    | 0, hq => have e : i = k := by simpa using hq
               rw [← e]; exact cell_of_row w0 w.heap.size 0 _ _ _ hh
    | 1, hq => have e : j = k := by simpa using hq
               rw [← e]; exact cell_of_row w0 w.heap.size 1 _ _ _ hh
    | q + 2, hq => simp at hq
  have CS := Lib.hid (separate_any b off n c l hn hp w.heap.size 2 [i, j] (by intro k hk; simp at hk; rcases hk with rfl | rfl <;> omega) rfl (by decide) w0 (hr.below b0) hcols)
  have HC := Lib.hid (hc.below b0)
  have HP := Lib.hid hp
  have HL := Lib.hid hl
  have B0 := Lib.hid b0
  have hi0 : (0 : Int) ≤ (i : Int) := by omega
  have hj0 : (0 : Int) ≤ (j : Int) := by omega
  have hijz : (i : Int) ≤ (j : Int) := by omega
  have hjn : (j : Int) ≤ (n : Int) := by omega
  have hin : (i : Int) ≤ (n : Int) := by omega
  clear hr hc hp hl b0 hcols
  go_enter Tryd.func44, Tryd.ntmps44
  go_wp2_with fail
  refine CS.out.mono ?_
  rintro e w1 ⟨g, cap, rfl, hO⟩
  have hcap : n ≤ cap := by
    rcases hO.slice with ⟨e, _⟩ | ⟨g', cap', e, _, _, hc⟩
    · injection e with e; cases e
    · injection e with e1 e2 e3
      omega
  have hcz : (n : Int) ≤ (cap : Int) := by omega
  have hcz2 : (i : Int) ≤ (cap : Int) := by omega
  obtain ⟨R, hR⟩ : ∃ R : Option Addr, (if n = j then some ⟨g, 0, none⟩ else some ⟨g, j * 5, none⟩) = R := ⟨_, rfl⟩
  have hRd := hO.rd.1.drew
  have HM1 := Lib.hid (Mine.full (hRd.head (i := i) (by omega)))
  have HR1 := Lib.hid (hRd.tail hj hR)
  have HN1 := Lib.hid (fun e => tail_some hR e (n - j))
  have HC1 := Lib.hid ((HC.out.below hO.2).drew)
  have HB1 := Lib.hid ((B0.out.trans (hO.2.mono B0.out.size)).drew)
  have hcl : cs.length = m := HC.out.1
  have hrl : (seps l [i, j]).length = n := by rw [seps_length]; exact HL.out
  have l1 : ((seps l [i, j]).take i).length + cs.length ≤ 100000 := by rw [List.length_take]; omega
  have l2 : ((seps l [i, j]).take i ++ cs).length + ((seps l [i, j]).drop j).length ≤ 100000 := by rw [List.length_append, List.length_take, List.length_drop]; omega
  have hfin : (seps l [i, j]).take i ++ cs ++ (seps l [i, j]).drop j = repl l i j cs := by
    unfold repl
    rw [← two_left HP.out i j hij (by rw [HL.out]; exact hj), ← two_right HP.out i j hij (by rw [HL.out]; exact hj)]
    rfl
  have HF := Lib.hid hfin
  have HRE := Lib.hid hR
  clear hO CS hw0 hRd hcl hrl hfin HC B0 HP HL
  go_wp2
  go_region
  clear hR
  go_wp2_with (first | (at_builtin; refine wpList_joinC rfl (.tmp 28) (.tmp 29) rfl w1.drew _ _ _ cs A m cc rfl rfl HM1.out HC1.out hnil l1 ?_; intro A2 n2 c2 w2 hO2; have HO2 := Lib.hid hO2.out; have HR2 := Lib.hid (HR1.out.below HO2.out.1); clear hO2) | (at_builtin; refine wpList_joinC rfl (.tmp 30) (.tmp 31) rfl w1.drew _ _ _ _ R (n - j) (n - j) rfl rfl HO2.out HR2.out HN1.out l2 ?_; intro A3 n3 c3 w3 hO3; have HO3 := Lib.hid hO3.out; clear hO3))
  go_ret
  refine ⟨A3, n3, c3, rfl, ?_⟩
  rw [← HF.out]
  exact HO3.out.gives.rebase HB1.out

end Go.Proofs.YtcljmmadimldlaaDoor
