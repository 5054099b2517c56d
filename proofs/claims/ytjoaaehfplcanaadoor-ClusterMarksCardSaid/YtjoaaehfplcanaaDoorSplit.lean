/-
  What Split of cluster returns, for every list of at most 1000 numbers: the strings of the clusters of the plain mathematics.
-/
import Derived.Test.YtjoaaehfplcanaaDoorAttach
import Derived.Test.YtjoaaehfplcanaaDoorAttachOne
import Derived.Test.YtjoaaehfplcanaaDoorBase
import Derived.Laws.EntriesVeiled
namespace Go.Proofs.YtjoaaehfplcanaaDoor
open Go.RowKit Go.Shelf

/-- How many marks the last cluster has, or any number where there is none. -/
def MarksOf (st : List (List Int) × List Int) (m : Int) : Prop := st.2 ≠ [] → m = (st.2.length : Int) - 1
/-- The variables of Split hold what the plain mathematics has so far. -/
def At (w0 : World) (g : Nat) (w : World) (st : List (List Int) × List Int) : Prop :=
  ∃ v m, St w0 g w v ((Cl.full st).map Cl.str) m ∧ MarksOf st m

theorem full_last {o : List (List Int)} {c : List Int} (hc : c ≠ []) : (Cl.full (o, c)).map Cl.str = o.map Cl.str ++ [Cl.str c] := by
  unfold Cl.full
  rw [if_neg hc, List.map_append]
  rfl

theorem begin_at (w0 : World) (g : Nat) (w : World) (st : List (List Int) × List Int) (r : Int) (h : At w0 g w st) (hr : Cl.isBase r = true) (hl : (Cl.full st).length ≤ 1000) :
    Calls Tryd.prog 31 #[.int .i32 r, .pointer (some ⟨g, 0, none⟩), .pointer (some ⟨g + 1, 0, none⟩)] w
      fun e w' => e = .returned (.tuple #[]) ∧ At w0 g w' (Cl.step st r) := by
  obtain ⟨v, m, h, _⟩ := h
  refine (begin_any w0 g w v _ m r h (by simpa using hl)).mono fun e w' ⟨he, v', h'⟩ => ⟨he, v', 0, ?_, ?_⟩
  · rw [Cl.step_base st hr, full_last (by simp)]
    exact h'
  · rw [Cl.step_base st hr]
    intro _
    rfl
theorem attach_at (w0 : World) (g : Nat) (w : World) (st : List (List Int) × List Int) (r : Int) (h : At w0 g w st) (hr : Cl.isMark r = true) (hk : Cl.Keeps st) (hl : (Cl.full st).length ≤ 1000) :
    Calls Tryd.prog 32 #[.int .i32 r, .pointer (some ⟨g, 0, none⟩), .pointer (some ⟨g + 2, 0, none⟩), .pointer (some ⟨g + 1, 0, none⟩)] w
      fun e w' => e = .returned (.tuple #[]) ∧ At w0 g w' (Cl.step st r) := by
  obtain ⟨v, m, h, hm⟩ := h
  obtain ⟨o, c⟩ := st
  by_cases hc : c = []
  · subst hc
    have ho : o = [] := hk.2.1 rfl
    subst ho
    refine (attach_first w0 g w v m r h).mono fun e w' ⟨he, v', h'⟩ => ⟨he, v', 1, ?_, ?_⟩
    · have e : Cl.str [32, r] = Cl.str [32] ++ Cl.str [r] := Cl.str_snoc [32] r
      rw [Cl.step_first _ hr, full_last (by simp), e]
      exact h'
    · rw [Cl.step_first _ hr]
      intro _
      rfl
  · have hm1 : m = (c.length : Int) - 1 := hm hc
    have hcl : 0 < c.length := List.length_pos_iff.2 hc
    have hc4 := (hk.2.2 hc).len
    have hs := Cl.str_size c
    rw [full_last hc] at h
    have hol : (o.map Cl.str).length ≤ 1000 := by
      have e := congrArg List.length (full_last (o := o) hc)
      rw [List.length_map, List.length_append] at e
      omega
    by_cases hlt : c.length < 4
    · refine (attach_room w0 g w v _ _ m r h (by omega) (by omega) hol (by simp only at hc4; omega)).mono fun e w' ⟨he, h'⟩ => ⟨he, v, m + 1, ?_, ?_⟩
      · rw [Cl.step_room _ hr hc hlt, full_last (by simp), Cl.str_snoc]
        exact h'
      · rw [Cl.step_room _ hr hc hlt]
        intro _
        simp only [List.length_append, List.length_cons, List.length_nil]
        omega
    · refine (attach_full w0 g w v _ _ m r h (by omega) hol).mono fun e w' ⟨he, h'⟩ => ⟨he, v, m, ?_, ?_⟩
      · rw [Cl.step_full _ hr hc hlt, full_last hc]
        exact h'
      · rw [Cl.step_full _ hr hc hlt]
        intro _
        exact hm1
theorem At.below {w0 : World} {g : Nat} {w w' : World} {st : List (List Int) × List Int} (h : At w0 g w st) (hb : Below w.heap.size w w') : At w0 g w' st := by
  obtain ⟨v, m, h, hm⟩ := h
  exact ⟨v, m, h.below hb, hm⟩
theorem At.under {w0 : World} {g : Nat} {w : World} {st : List (List Int) × List Int} (h : At w0 g w st) : Below g w0 w := by
  obtain ⟨v, m, h, _⟩ := h
  exact h.2.2
theorem At.beginner {w0 : World} {g : Nat} {w : World} {st : List (List Int) × List Int} (h : At w0 g w st) : w.cell? ⟨g + 2, 0, none⟩ = some (beginOf g) := by
  obtain ⟨v, m, h, _⟩ := h
  exact h.cellB
/-- What is loaded at the end. -/
theorem At.ends {w0 : World} {w : World} {st : List (List Int) × List Int} (h : At w0 w0.heap.size w st) : ∃ A n cap, w.cell? ⟨w0.heap.size, 0, none⟩ = some (.slice A n cap) ∧ GivesS w0 w A n cap ((Cl.full st).map Cl.str) := by
  obtain ⟨v, m, h, _⟩ := h
  obtain ⟨A, n, cap, e, hg⟩ := row_gives h.2.1 h.2.2
  exact ⟨A, n, cap, by rw [← e]; exact h.cellC.1, hg⟩

/-- The variables as they are laid. -/
theorem At.start (w : World) : At w w.heap.size (((w.alloc (.cells #[.slice none 0 0] 25)).alloc (.cells #[.int .i64 0] 3)).alloc (.cells #[.func (.func 31) #[] #[.pointer (some ⟨w.heap.size, 0, none⟩), .pointer (some ⟨w.heap.size + 1, 0, none⟩)]] 47)) ([], []) := by
  have s1 : (w.alloc (.cells #[.slice none 0 0] 25)).heap.size = w.heap.size + 1 := by simp
  have s2 : ((w.alloc (.cells #[.slice none 0 0] 25)).alloc (.cells #[.int .i64 0] 3)).heap.size = w.heap.size + 2 := by simp
  have e1 := heap_alloc_new w (.cells #[.slice none 0 0] 25)
  have e2 := heap_alloc_new (w.alloc (.cells #[.slice none 0 0] 25)) (.cells #[.int .i64 0] 3)
  rw [s1] at e2
  have e3 := heap_alloc_new ((w.alloc (.cells #[.slice none 0 0] 25)).alloc (.cells #[.int .i64 0] 3)) (.cells #[beginOf w.heap.size] 47)
  rw [s2] at e3
  refine ⟨.slice none 0 0, 0, ⟨⟨?_, ?_, e3⟩, World.ownsRow_nil _ _ _ _, ?_⟩, fun h => absurd rfl h⟩
  · rw [Below.heap_alloc _ _ _ (by omega), Below.heap_alloc _ _ _ (by omega)]
    exact e1
  · rw [Below.heap_alloc _ _ _ (by omega)]
    exact e2
  · exact (((Below.refl _ w).alloc (Nat.le_refl _) _).alloc (by omega) _).alloc (by omega) _

theorem take_go (xs : List Int) (k : Nat) (hk : k < xs.length) : Cl.go ([], []) (xs.take (k + 1)) = Cl.step (Cl.go ([], []) (xs.take k)) (xs.getD k 0) := by
  rw [Cw.take_succ xs k hk, Cl.go_snoc]

set_option maxHeartbeats 2000000 in
set_option maxRecDepth 100000 in
theorem split_any (A : Option Addr) (n c B : Nat) (xs : List Int) (w : World) (hB : B ≤ w.heap.size) (hX : Nums w B A n xs) (hbig : n ≤ 1000) :
    Calls Tryd.prog 14 #[.slice A n c] w fun e w' => ∃ A' n' c', e = .returned (.slice A' n' c') ∧ GivesS w w' A' n' c' ((Cl.split xs).map Cl.str) := by
  have hmf : ∀ (fn : Fn) (first cap : Array Value) (w : World), (Instr.makeFunc fn first cap).run Tryd.prog w = .ok (.func fn first cap) w := fun _ _ _ _ => rfl
  go_enter Tryd.func14, Tryd.ntmps14
  go_wp2
  go_loopg [8, 13] (n + 1) (fun gk _ i wr => ∃ k : Nat, gk + k = n + 1 ∧ k ≤ n ∧ i = .int .i64 (k : Int) ∧ Aside (At w w.heap.size wr (Cl.go ([], []) (xs.take k))))
  case atStart =>
    refine ⟨0, by omega, Nat.zero_le _, rfl, ?_⟩
    exact At.start w
  case round =>
    obtain ⟨k, hg, hkn, rfl, hat⟩ := hrel
    have HL := Lib.hid hX.1
    by_cases hlt : k < n
    · obtain ⟨g', rfl⟩ : ∃ g', gk = g' + 1 := ⟨gk - 1, by omega⟩
      have hz : (k : Int) < (n : Int) := by omega
      have hz0 : (0 : Int) ≤ (k : Int) := by omega
      have hkx : k < xs.length := by rw [HL.out]; exact hlt
      obtain ⟨b, off, rfl, hb, hc⟩ := hX.2 k hlt
      have hcell : wr.cell? ⟨b, off + k, none⟩ = some (.int .i32 (xs.getD k 0)) := (hat.out.under.cell (p := ⟨b, off + k, none⟩) (Nat.lt_of_lt_of_le hb hB)).trans hc
      have HT := Lib.hid (take_go xs k hkx)
      have hkeep := Cl.keeps_go (xs.take k)
      have hlen : (Cl.full (Cl.go ([], []) (xs.take k))).length ≤ 1000 := by
        have := Cl.split_len (xs.take k)
        have h2 : (xs.take k).length ≤ k := by rw [List.length_take]; omega
        unfold Cl.split at this
        omega
      generalize Cl.go ([], []) (xs.take k) = st at hat HT hkeep hlen
      generalize xs.getD k 0 = r at hcell HT hc
      have HX := Lib.hid hX
      have HK := Lib.hid hkeep
      clear hX hc hkeep
      have cM := mark_any r wr
      cases hr : Cl.isMark r
      · have hr' : Cw.hits Cw.marks r = false := hr
        rw [hr'] at cM
        cases hbs : Cl.isBase r
        · have HQ : Hid (Cl.step st r = st) := Lib.hid (Cl.step_ctl st hr hbs)
          clear hr hr' 
          go_wp2_with fail
          refine cM.mono ?_
          rintro e w1 ⟨rfl, b1⟩
          have cB := isBase_any r w1
          rw [hbs] at cB
          clear hbs
          go_wp2_with fail
          refine cB.mono ?_
          rintro e w2 ⟨rfl, b2⟩
          have h2 : Aside (At w w.heap.size w2 st) := (hat.out.below b1).below b2
          go_wp2
          go_roundg g'
          case measure => omega
          case rel => exact ⟨k + 1, by omega, by omega, by go_num, by rw [HT.out, HQ.out]; exact h2⟩
        · have HBS := Lib.hid hbs
          clear hr hr'
          go_wp2_with fail
          refine cM.mono ?_
          rintro e w1 ⟨rfl, b1⟩
          have cB := isBase_any r w1
          rw [hbs] at cB
          clear hbs
          go_wp2_with fail
          refine cB.mono ?_
          rintro e w2 ⟨rfl, b2⟩
          have h2 : Aside (At w w.heap.size w2 st) := (hat.out.below b1).below b2
          have hbg := h2.out.beginner
          unfold beginOf at hbg
          go_wp2_with fail
          refine (begin_at w w.heap.size w2 st r h2.out HBS.out hlen).mono ?_
          rintro e w3 ⟨rfl, h3⟩
          have H3 : Aside (At w w.heap.size w3 (Cl.step st r)) := h3
          clear h3
          go_wp2
          go_roundg g'
          case measure => omega
          case rel => exact ⟨k + 1, by omega, by omega, by go_num, by rw [HT.out]; exact H3⟩
      · have hr' : Cw.hits Cw.marks r = true := hr
        rw [hr'] at cM
        have HR := Lib.hid hr
        clear hr hr'
        go_wp2_with fail
        refine cM.mono ?_
        rintro e w1 ⟨rfl, b1⟩
        have h2 : Aside (At w w.heap.size w1 st) := hat.out.below b1
        go_wp2_with fail
        refine (attach_at w w.heap.size w1 st r h2.out HR.out HK.out hlen).mono ?_
        rintro e w3 ⟨rfl, h3⟩
        have H3 : Aside (At w w.heap.size w3 (Cl.step st r)) := h3
        clear h3
        go_wp2
        go_roundg g'
        case measure => omega
        case rel => exact ⟨k + 1, by omega, by omega, by go_num, by rw [HT.out]; exact H3⟩
    · have hz : ¬ (k : Int) < (n : Int) := by omega
      have htk : xs.take k = xs := List.take_of_length_le (by rw [HL.out]; omega)
      rw [htk] at hat
      obtain ⟨A', n', c', hc, hg'⟩ := hat.out.ends
      have HG := Lib.hid hg'
      have HX := Lib.hid hX
      clear hX htk hg'
      go_wp2
      go_ret
      exact ⟨A', n', c', rfl, HG.out⟩

end Go.Proofs.YtjoaaehfplcanaaDoor
