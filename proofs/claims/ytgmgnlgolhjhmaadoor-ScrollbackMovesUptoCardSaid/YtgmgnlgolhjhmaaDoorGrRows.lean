/-
  Slices of rows of cells: how they read, what a call that makes one owns, and what append, make and a store do to it.
-/
import Derived.Test.YtgmgnlgolhjhmaaDoorBaseB
import Derived.Maps.AppendAt
import Derived.Laws.MakeOwn
namespace Go.Proofs.YtgmgnlgolhjhmaaDoor
open Go.RowKit Cr

/-- A slice value reads as a row of cells. -/
def In (w : World) (h : Value) (l : List C) : Prop := ∃ A m c, h = .slice A m c ∧ Rd w A m l ∧ m ≤ c ∧ (A = none → m = 0 ∧ c = 0) ∧ m ≤ 9223372036854775807
theorem In.below {w w' : World} {h : Value} {l : List C} (hi : In w h l) (hb : Below w.heap.size w w') : In w' h l := by
  obtain ⟨A, m, c, e, hr, h1⟩ := hi
  exact ⟨A, m, c, e, hr.below hb, h1⟩
theorem In.nil (w : World) : In w (.slice none 0 0) [] := ⟨none, 0, 0, rfl, Rd.nil _ _, Nat.le_refl _, fun _ => ⟨rfl, rfl⟩, by decide⟩
theorem In.one {w : World} {h : Value} {l : List C} (hi : In w h l) : h.oneCell' = true := by
  obtain ⟨A, m, c, rfl, _⟩ := hi
  rfl
/-- The row does not lie in the block of v. -/
def Off (v h : Value) : Prop := ∀ A m c, h = .slice A m c → 0 < m → ∀ p, A = some p → some p.block ≠ v.ownBlock
theorem Off.nil (v : Value) : Off v (.slice none 0 0) := fun A m c e h => by injection e with _ e _; omega
theorem Off.to {v v' h : Value} (ho : Off v h) (e : v'.ownBlock = v.ownBlock) : Off v' h := fun A m c e' h0 p hp => by rw [e]; exact ho A m c e' h0 p hp
theorem In.kept {w w' : World} {h v : Value} {l : List C} (hi : In w h l) (hg : w.grownBy w' v.ownBlock) (ho : Off v h) : In w' h l := by
  obtain ⟨A, m, c, e, hr, h1⟩ := hi
  refine ⟨A, m, c, e, ⟨hr.1, fun j x hj => ?_⟩, h1⟩
  obtain ⟨b, off, e2, hlt, hc⟩ := hr.2 j x hj
  have hm : 0 < m := by
    rw [← hr.1]
    rcases Nat.eq_zero_or_pos l.length with h0 | h0
    · rw [List.eq_nil_of_length_eq_zero h0] at hj; simp at hj
    · exact h0
  have hne := ho A m c e hm _ e2
  exact ⟨b, off, e2, Nat.lt_of_lt_of_le hlt hg.size, fun i v hv => (World.cell?_of_block (a := ⟨b, off + (5 * j + i), none⟩) (hg.block b hlt hne)).trans (hc i v hv)⟩
theorem In.lt {w : World} {A : Option Addr} {m c : Nat} {l : List C} (hi : In w (.slice A m c) l) (hm : 0 < m) : ∀ p, A = some p → p.block < w.heap.size := by
  obtain ⟨A', m', c', e, hr, _⟩ := hi
  injection e with e1 e2 e3
  subst e1 e2 e3
  have hl : 0 < l.length := by rw [hr.1]; exact hm
  obtain ⟨b, off, e, hlt, _⟩ := hr.2 0 l[0] (List.getElem?_eq_getElem hl)
  intro p hp
  rw [e] at hp
  injection hp with hp
  rw [← hp]
  exact hlt
theorem In.off {w : World} {v h : Value} {l : List C} (hi : In w h l) (hv : ∀ g, v.ownBlock = some g → w.heap.size ≤ g) : Off v h := by
  intro A m c e hm p hp he
  subst e
  have h1 := hi.lt hm p hp
  have h2 := hv _ he.symm
  omega

/-- The slice of n rows at A reads, in the world w, as the list L; each of its headers has the property Q. -/
def RdQ (Q : Value → Prop) (w : World) (A : Option Addr) (n : Nat) (L : List (List C)) : Prop :=
  L.length = n ∧ ∀ j l, L[j]? = some l → ∃ b off h, A = some ⟨b, off, none⟩ ∧ b < w.heap.size ∧ w.cell? ⟨b, off + j, none⟩ = some h ∧ In w h l ∧ Q h
def RdR (w : World) (A : Option Addr) (n : Nat) (L : List (List C)) : Prop := RdQ (fun _ => True) w A n L
theorem RdR.below {w w' : World} {A : Option Addr} {n : Nat} {L : List (List C)} (h : RdR w A n L) (hb : Below w.heap.size w w') : RdR w' A n L := by
  refine ⟨h.1, fun j l hj => ?_⟩
  obtain ⟨b, off, x, e, hlt, hc, hi, _⟩ := h.2 j l hj
  exact ⟨b, off, x, e, Nat.lt_of_lt_of_le hlt hb.size, (hb.cell (p := ⟨b, off + j, none⟩) hlt).trans hc, hi.below hb, trivial⟩
theorem RdR.alloc {w : World} {A : Option Addr} {n : Nat} {L : List (List C)} (h : RdR w A n L) (o : Obj) : RdR (w.alloc o) A n L := h.below ((Below.refl _ _).alloc (Nat.le_refl _) o)
theorem RdR.drew {w : World} {A : Option Addr} {n : Nat} {L : List (List C)} (h : RdR w A n L) : RdR w.drew A n L := h.below (Below.refl _ _).drew
theorem RdR.nil (w : World) (A : Option Addr) : RdR w A 0 [] := ⟨rfl, fun j c hj => by simp at hj⟩
theorem RdQ.rdr {Q : Value → Prop} {w : World} {A : Option Addr} {n : Nat} {L : List (List C)} (h : RdQ Q w A n L) : RdR w A n L :=
  ⟨h.1, fun j l hj => by obtain ⟨b, off, x, e, hlt, hc, hi, _⟩ := h.2 j l hj; exact ⟨b, off, x, e, hlt, hc, hi, trivial⟩⟩
/-- A row of the slice: its header, and the row behind it. -/
theorem RdR.at {w : World} {A : Option Addr} {n : Nat} {L : List (List C)} (h : RdR w A n L) (j : Nat) (l : List C) (hj : L[j]? = some l) : ∃ (b off : Nat) (A' : Option Addr) (m c : Nat), A = some ⟨b, off, none⟩ ∧ b < w.heap.size ∧ w.cell? ⟨b, off + j, none⟩ = some (.slice A' m c) ∧ Rd w A' m l ∧ m ≤ c ∧ (A' = none → m = 0 ∧ c = 0) ∧ m ≤ 9223372036854775807 := by
  obtain ⟨b, off, x, e, hlt, hc, ⟨A', m, c, rfl, h1⟩, _⟩ := h.2 j l hj
  exact ⟨b, off, A', m, c, e, hlt, hc, h1⟩
theorem RdR.addr {w : World} {A : Option Addr} {n : Nat} {L : List (List C)} (h : RdR w A n L) (h0 : 0 < n) : ∃ b off, A = some ⟨b, off, none⟩ := by
  have hl : 0 < L.length := by rw [h.1]; exact h0
  obtain ⟨b, off, x, e, _⟩ := h.2 0 L[0] (List.getElem?_eq_getElem hl)
  exact ⟨b, off, e⟩
/-- A part of a slice of rows. -/
theorem RdR.part {w : World} {b off n : Nat} {L : List (List C)} (h : RdR w (some ⟨b, off, none⟩) n L) (i j : Nat) (hij : i ≤ j) (hj : j ≤ n) : RdR w (some ⟨b, off + i, none⟩) (j - i) ((L.drop i).take (j - i)) := by
  have hl := h.1
  refine ⟨by rw [List.length_take, List.length_drop]; omega, fun q l hq => ?_⟩
  have hq' : L[i + q]? = some l := by
    rw [List.getElem?_take] at hq
    split at hq
    · rwa [List.getElem?_drop] at hq
    · cases hq
  obtain ⟨b', off', x, e, hb, hc, hi⟩ := h.2 _ l hq'
  injection e with e
  injection e with e1 e2
  subst e1 e2
  exact ⟨b, off + i, x, rfl, hb, by rw [Nat.add_assoc]; exact hc, hi⟩
/-- The part, as the program writes its address. -/
theorem RdR.mid {w : World} {b off n c : Nat} {L : List (List C)} (h : RdR w (some ⟨b, off, none⟩) n L) {i j : Nat} (hij : i ≤ j) (hj : j ≤ n) (hc : n ≤ c) {R : Option Addr} (hR : (if c = i then some ⟨b, off, none⟩ else some ⟨b, off + i, none⟩) = R) : RdR w R (j - i) ((L.drop i).take (j - i)) := by
  by_cases e : c = i
  · have e1 : j = i := by omega
    subst e1
    rw [Nat.sub_self, List.take_zero]
    exact RdR.nil _ _
  · rw [if_neg e] at hR
    subst hR
    exact h.part i j hij hj
theorem RdR.head {w : World} {b off n i : Nat} {L : List (List C)} (h : RdR w (some ⟨b, off, none⟩) n L) (hi : i ≤ n) : RdR w (some ⟨b, off, none⟩) i (L.take i) := by
  have := h.part 0 i (Nat.zero_le _) hi
  simpa using this

/-- The call that began in w0 owns the slice v of rows, which reads as L; no row lies in the slice's own block. -/
def GR (w0 w : World) (v : Value) (L : List (List C)) : Prop :=
  ∃ hs : List Value, w.ownsRow w0.heap.size 25 1 v L.length hs ∧ Below w0.heap.size w0 w ∧ ∀ (j : Nat) (h : Value) (l : List C), hs[j]? = some h → L[j]? = some l → In w h l ∧ Off v h
theorem GR.bel {w0 w : World} {v : Value} {L : List (List C)} (h : GR w0 w v L) : Below w0.heap.size w0 w := by obtain ⟨_, _, hb, _⟩ := h; exact hb
theorem GR.below {w0 w w' : World} {v : Value} {L : List (List C)} (h : GR w0 w v L) (hb : Below w.heap.size w w') : GR w0 w' v L := by
  obtain ⟨hs, ho, h0, hh⟩ := h
  exact ⟨hs, owns_low ho hb, h0.trans (hb.mono h0.size), fun j x l hj hl => ⟨(hh j x l hj hl).1.below hb, (hh j x l hj hl).2⟩⟩
theorem GR.alloc {w0 w : World} {v : Value} {L : List (List C)} (h : GR w0 w v L) (o : Obj) : GR w0 (w.alloc o) v L := h.below ((Below.refl _ _).alloc (Nat.le_refl _) o)
theorem GR.drew {w0 w : World} {v : Value} {L : List (List C)} (h : GR w0 w v L) : GR w0 w.drew v L := h.below (Below.refl _ _).drew
theorem GR.rebase {w0 w1 w : World} {v : Value} {L : List (List C)} (h : GR w1 w v L) (hb : Below w0.heap.size w0 w1) : GR w0 w v L := by
  obtain ⟨hs, ho, h0, hh⟩ := h
  refine ⟨hs, ⟨ho.1, ?_⟩, hb.trans (h0.mono hb.size), hh⟩
  rcases ho.2 with hn | ⟨g, cap, cur, rfl, hbase, rest⟩
  · exact .inl hn
  · exact .inr ⟨g, cap, cur, rfl, Nat.le_trans hb.size hbase, rest⟩
theorem GR.start (w : World) : GR w w (.slice none 0 0) [] := ⟨[], World.ownsRow_nil _ _ _ _, Below.refl _ _, fun j h l hj => by simp at hj⟩
theorem GR.slice {w0 w : World} {v : Value} {L : List (List C)} (h : GR w0 w v L) : (v = .slice none 0 0 ∧ L = []) ∨ ∃ g cap, v = .slice (some ⟨g, 0, none⟩) L.length cap ∧ w0.heap.size ≤ g ∧ g < w.heap.size ∧ L.length ≤ cap := by
  obtain ⟨hs, ho, _⟩ := h
  rcases ho.2 with ⟨e, e0⟩ | ⟨g, cap, cur, e, hb, hg, hc, _⟩
  · exact .inl ⟨e, List.eq_nil_of_length_eq_zero e0⟩
  · exact .inr ⟨g, cap, e, hb, (Array.getElem?_eq_some_iff.1 hg).1, hc⟩
theorem GR.own {w0 w : World} {v : Value} {L : List (List C)} (h : GR w0 w v L) : ∀ g, v.ownBlock = some g → w0.heap.size ≤ g ∧ g < w.heap.size := by
  intro g hg
  rcases h.slice with ⟨rfl, _⟩ | ⟨g', cap, rfl, h1, h2, _⟩
  · cases hg
  · injection hg with hg
    subst hg
    exact ⟨h1, h2⟩
theorem GR.rd {w0 w : World} {A : Option Addr} {n c : Nat} {L : List (List C)} (h : GR w0 w (.slice A n c) L) : RdR w A n L ∧ (A = none → n = 0 ∧ c = 0) ∧ n ≤ c ∧ Fr w0 A := by
  have hs := h.slice
  obtain ⟨hs', ho, _, hh⟩ := h
  rcases hs with ⟨e, rfl⟩ | ⟨g, cap, e, hge, hlt, hc⟩
  · injection e with e1 e2 e3
    subst e1 e2 e3
    exact ⟨RdR.nil _ _, fun _ => ⟨rfl, rfl⟩, Nat.le_refl _, Fr.none _⟩
  · injection e with e1 e2 e3
    subst e1 e2 e3
    refine ⟨⟨rfl, fun j l hj => ?_⟩, fun e => by (cases e), hc, fun p e => by injection e with e; subst e; exact hge⟩
    have hj' : j < L.length := (List.getElem?_eq_some_iff.1 hj).1
    have hl : hs'.length = L.length := by rw [ho.1]; omega
    have hx : hs'[j]? = some (hs'[j]'(by omega)) := List.getElem?_eq_getElem _
    have hcell := ho.cells (g := g) rfl j _ hx
    rw [addr_add] at hcell
    exact ⟨g, 0, _, rfl, hlt, hcell, (hh j _ l hx hj).1, trivial⟩
theorem GR.setIn {w : World} {g k : Nat} {u x : Value} {l : List C} {n cap : Nat} (hi : In w x l) (ho : Off (.slice (some ⟨g, 0, none⟩) n cap) x) : In (w.setCell ⟨g, k, none⟩ u) x l :=
  hi.kept (v := .slice (some ⟨g, 0, none⟩) n cap) ⟨rfl, rfl, rfl, by simp [World.setCell], fun j _ hne => heap_setCell_other w _ j u (fun e => hne (by simp [Value.ownBlock, e]))⟩ ho
/-- A row is stored. -/
theorem GR.set {w0 w : World} {g n cap : Nat} {L : List (List C)} (h : GR w0 w (.slice (some ⟨g, 0, none⟩) n cap) L) (j : Nat) (x : Value) (l : List C) (hj : j < n) (hi : In w x l) (ho : Off (.slice (some ⟨g, 0, none⟩) n cap) x) :
    GR w0 (w.setCell ⟨g, j, none⟩ x) (.slice (some ⟨g, 0, none⟩) n cap) (L.set j l) := by
  obtain ⟨hs, hown, hb, hh⟩ := h
  rcases hown.2 with ⟨e, _⟩ | ⟨g', cap', cur, e, hbase, hg, h1, h2, h3, h4⟩
  · injection e with e; cases e
  · injection e with e1 e2 e3
    injection e1 with e1
    injection e1 with e1
    subst e1 e2 e3
    refine ⟨hs.set j x, ⟨by rw [List.length_set, List.length_set]; exact hown.1, .inr ⟨g, cap, cur.setIfInBounds j x, by rw [List.length_set], hbase, heap_setCell_same w g j cur _ x hg, by rw [List.length_set]; exact h1, h2, by simpa using h3, ?_⟩⟩, hb.setCell (p := ⟨g, j, none⟩) hbase _, fun k y m hk hm => ?_⟩
    · rw [List.length_set, Array.toList_setIfInBounds, List.take_set, h4]
    · by_cases e : k = j
      · subst e
        have hk' : k < hs.length := by rw [hown.1]; omega
        rw [List.getElem?_set_self hk'] at hk
        rw [List.getElem?_set_self hj] at hm
        injection hk with hk
        injection hm with hm
        subst hk hm
        exact ⟨GR.setIn hi ho, ho⟩
      · rw [List.getElem?_set_ne (Ne.symm e)] at hk hm
        have := hh k y m hk hm
        exact ⟨GR.setIn this.1 this.2, this.2⟩
theorem GR.free {w0 w : World} {g n cap : Nat} {L : List (List C)} (h : GR w0 w (.slice (some ⟨g, 0, none⟩) n cap) L) (i : Nat) (hi : i < n) : w.frozen? ⟨g, i, none⟩ = false ∧ ∃ x, w.cell? ⟨g, i, none⟩ = some x := by
  have hl := h.rd.1.1
  obtain ⟨b, off, A', m, c, e, _, hc, _⟩ := h.rd.1.at i (L[i]'(by omega)) (List.getElem?_eq_getElem _)
  injection e with e
  injection e with e1 e2
  subst e1 e2
  obtain ⟨hs, hown, _⟩ := h
  rcases hown.2 with ⟨e, _⟩ | ⟨g', cap', cur, e, hbase, hg, _⟩
  · injection e with e; cases e
  · injection e with e1 e2 e3
    injection e1 with e1
    injection e1 with e1
    subst e1
    exact ⟨frozen_of_row w g i cur _ hg, _, by rw [Nat.zero_add] at hc; exact hc⟩

theorem Tryd.infoRow : (Tryd.prog.info? 25).map (fun i => (i.zero, i.size, i.bytes)) = some (some (.slice none 0 0), 1, 24) := by kernel_rfl

/-- make of n rows. -/
theorem GR.made (w : World) (n : Nat) (hn : n ≤ 1000) : ∃ w', (Instr.makeSlice 22 (.int .i64 (n : Int)) (.int .i64 (n : Int))).run Tryd.prog w = .ok (.slice (some ⟨w.heap.size, 0, none⟩) n n) w' ∧ GR w w' (.slice (some ⟨w.heap.size, 0, none⟩) n n) (List.replicate n []) := by
  obtain ⟨i0, hi, hz0, hz1, hz2⟩ := info_parts Tryd.infoRow
  have h := run_makeSlice (P := Tryd.prog) w 22 25 i0 _ Tryd.underlying22 hi hz0 .i64 .i64 (n : Int) (n : Int) (by omega) (Int.le_refl _) (by rw [hz1]; simp; omega) (by rw [hz2]; omega) (by omega)
  refine ⟨_, h, (madeCells (Value.slice none 0 0).cells ((n : Int).toNat * i0.size)).toList, ⟨?_, .inr ⟨w.heap.size, n, _, by rw [List.length_replicate], Nat.le_refl _, heap_alloc_new w _, by rw [List.length_replicate]; exact Nat.le_refl _, by unfold maxLen; omega, ?_, ?_⟩⟩, (Below.refl _ _).alloc (Nat.le_refl _) _, fun j x l hj hl => ?_⟩
  · rw [Array.length_toList, size_madeCells, hz1]; simp
  · rw [size_madeCells, hz1]; simp
  · rw [List.take_of_length_le]
    rw [Array.length_toList, size_madeCells, hz1]; simp
  · have hl' : l = [] := List.eq_of_mem_replicate (List.mem_of_getElem? hl)
    have hx : x = .slice none 0 0 := by
      have hm := List.mem_of_getElem? hj
      simp [madeCells, Value.cells, Nat.mod_one] at hm
      exact hm.2.symm
    subst hl' hx
    exact ⟨In.nil _, Off.nil _⟩

/-- append of a slice of rows that lie elsewhere. -/
theorem run_joinR (ty : TypeId) (w0 w : World) (v : Value) (L M : List (List C)) (A : Option Addr) (m c : Nat) (hv : GR w0 w v L) (hy : RdQ (Off v) w A m M) (hnil : A = none → m = 0 ∧ c = 0) (hl : L.length + M.length ≤ 100000) :
    ∃ (A' : Option Addr) (c' : Nat) (w' : World), (Builtin.append_ #[22, 22] ty #[v, .slice A m c]).run Tryd.prog w = .ok (.slice A' (L.length + M.length) c') w' ∧ GR w0 w' (.slice A' (L.length + M.length) c') (L ++ M) ∧ w.grownBy w' v.ownBlock ∧ ((Value.slice A' (L.length + M.length) c').ownBlock = v.ownBlock ∨ (Value.slice A' (L.length + M.length) c').ownBlock = some w.heap.size) := by
  obtain ⟨i0, hi, hz0, hz1, hz2⟩ := info_parts Tryd.infoRow
  have hm : M.length = m := hy.1
  have hsl := hv.slice
  have hown := hv.own
  obtain ⟨hs, ho, hb, hh⟩ := hv
  have hsz := hb.size
  have hlen : hs.length = L.length := by rw [ho.1]; omega
  cases A with
  | none =>
    obtain ⟨rfl, rfl⟩ := hnil rfl
    have hy0 : M = [] := List.eq_nil_of_length_eq_zero hm
    subst hy0
    have hrun := run_append_owned_none (P := Tryd.prog) (w := w) w0.heap.size 22 ty 25 i0 1 Tryd.underlying22 hi v L.length hs ho
    rw [List.append_nil, List.length_nil, Nat.add_zero]
    rcases hsl with ⟨rfl, rfl⟩ | ⟨g, cap, rfl, _⟩
    · exact ⟨none, 0, w, hrun, ⟨hs, ho, hb, hh⟩, ⟨rfl, rfl, rfl, Nat.le_refl _, fun _ _ _ => rfl⟩, .inl rfl⟩
    · exact ⟨_, cap, w, hrun, ⟨hs, ho, hb, hh⟩, ⟨rfl, rfl, rfl, Nat.le_refl _, fun _ _ _ => rfl⟩, .inl rfl⟩
  | some ad =>
    obtain ⟨ab, ao, asp⟩ := ad
    -- the headers of the second slice
    have hnews : ∃ news : List Value, news.length = m ∧ (∀ j u, news[j]? = some u → w.cell? ((⟨ab, ao, asp⟩ : Addr).add j) = some u) ∧ ∀ (j : Nat) (u : Value) (l : List C), news[j]? = some u → M[j]? = some l → In w u l ∧ Off v u := by
      have key : ∀ k, k ≤ m → ∃ news : List Value, news.length = k ∧ (∀ j u, news[j]? = some u → w.cell? ((⟨ab, ao, asp⟩ : Addr).add j) = some u) ∧ ∀ (j : Nat) (u : Value) (l : List C), news[j]? = some u → M[j]? = some l → In w u l ∧ Off v u := by
        intro k
        induction k with
        | zero => intro _; exact ⟨[], rfl, fun j u hj => by simp at hj, fun j u l hj => by simp at hj⟩
        | succ k ih =>
          intro hk
          obtain ⟨ns, h1, h2, h3⟩ := ih (by omega)
          have hkM : k < M.length := by omega
          obtain ⟨b, off, x, e, _, hc, hi', hoff⟩ := hy.2 k M[k] (List.getElem?_eq_getElem hkM)
          injection e with e
          injection e with e1 e2 e3
          subst e1 e2 e3
          refine ⟨ns ++ [x], by simp [h1], fun j u hj => ?_, fun j u l hj hl => ?_⟩
          · rcases Nat.lt_or_ge j k with hlt | hge
            · rw [List.getElem?_append_left (by omega)] at hj
              exact h2 j u hj
            · rw [List.getElem?_append_right (by omega)] at hj
              have : j - ns.length = 0 := by
                rcases Nat.eq_zero_or_pos (j - ns.length) with h0 | h0
                · exact h0
                · rw [List.getElem?_eq_none (by simp; omega)] at hj; cases hj
              rw [this] at hj
              have e : x = u := by simpa using hj
              have e2 : j = k := by omega
              subst e e2
              rw [addr_add]
              exact hc
          · rcases Nat.lt_or_ge j k with hlt | hge
            · rw [List.getElem?_append_left (by omega)] at hj
              exact h3 j u l hj hl
            · rw [List.getElem?_append_right (by omega)] at hj
              have : j - ns.length = 0 := by
                rcases Nat.eq_zero_or_pos (j - ns.length) with h0 | h0
                · exact h0
                · rw [List.getElem?_eq_none (by simp; omega)] at hj; cases hj
              rw [this] at hj
              have e : x = u := by simpa using hj
              have e2 : j = k := by omega
              subst e e2
              rw [List.getElem?_eq_getElem hkM] at hl
              injection hl with hl
              subst hl
              exact ⟨hi', hoff⟩
      exact key m (Nat.le_refl _)
    obtain ⟨news, n1, n2, n3⟩ := hnews
    have hone : ∀ u ∈ news, u.oneCell' = true := fun u hu => by
      obtain ⟨j, hj⟩ := List.getElem?_of_mem hu
      have hjm : j < M.length := by
        have := (List.getElem?_eq_some_iff.1 hj).1
        omega
      exact (n3 j u _ hj (List.getElem?_eq_getElem hjm)).1.one
    obtain ⟨v', w', hrun, hown', hgrow, _, hat⟩ := run_append_own_at (P := Tryd.prog) w w0.heap.size 22 ty 25 i0 _ 1 24 Tryd.underlying22 hi hz0 hz1 hz2 rfl (by decide) v L.length hs ho ⟨ab, ao, asp⟩ m c news (by rw [n1]; omega) n2 hone (by unfold maxLen; omega) (by omega) hsz
    have hoff : ∀ u l, In w u l → Off v u → Off v' u := by
      intro u l hi ho' A m c e h0 p hp
      subst e
      rcases hat with e | e
      · rw [e]; exact ho' A m c rfl h0 p hp
      · rw [e]
        have := hi.lt h0 p hp
        intro e
        injection e with e
        omega
    have hG : GR w0 w' v' (L ++ M) := by
      refine ⟨hs ++ news, by rw [List.length_append, hm]; exact hown', hb.grown hgrow hsz (fun k hk => (hown k hk).1), fun j u l hj hl => ?_⟩
      rcases Nat.lt_or_ge j L.length with hlt | hge
      · rw [List.getElem?_append_left (by omega)] at hj
        rw [List.getElem?_append_left hlt] at hl
        have h := hh j u l hj hl
        exact ⟨h.1.kept hgrow h.2, hoff u l h.1 h.2⟩
      · rw [List.getElem?_append_right (by omega), hlen] at hj
        rw [List.getElem?_append_right hge] at hl
        have h := n3 _ u l hj hl
        exact ⟨h.1.kept hgrow h.2, hoff u l h.1 h.2⟩
    have hshape : ∃ A' c', v' = .slice A' (L.length + M.length) c' := by
      rcases hG.slice with ⟨e, e0⟩ | ⟨g, cap, e, _⟩
      · have := congrArg List.length e0
        rw [List.length_append, List.length_nil] at this
        exact ⟨none, 0, by rw [e, this]⟩
      · exact ⟨_, cap, by rw [e, List.length_append]⟩
    obtain ⟨A', c', rfl⟩ := hshape
    exact ⟨A', c', w', hrun, hG, hgrow, hat⟩

theorem wp_joinR {o : Oper} {a : Act} {K : Act → World → Prop} {Q : Exit → Act → World → Prop} (s x : Operand)
    (ho : o.op = .call { callee := .builtin .append, args := #[s, x], argTypes := #[22, 22] })
    (w0 w : World) (v : Value) (L M : List (List C)) (A : Option Addr) (m c : Nat) (hs : a.eval s = v) (hx : a.eval x = .slice A m c) (hv : GR w0 w v L) (hy : RdQ (Off v) w A m M) (hnil : A = none → m = 0 ∧ c = 0) (hl : L.length + M.length ≤ 100000)
    (h : ∀ (A' : Option Addr) (c' : Nat) w', Aside (GR w0 w' (.slice A' (L.length + M.length) c') (L ++ M) ∧ w.grownBy w' v.ownBlock) → K (a.put o.dst (.slice A' (L.length + M.length) c')) w') : Oper.wp Tryd.prog o a w K Q := by
  obtain ⟨A', c', w', hrun, hO, hg, _⟩ := run_joinR o.type w0 w v L M A m c hv hy hnil hl
  unfold Oper.wp
  simp [execOp, ho, resolve, invoke, builtin, hs, hx, hrun, Result.andThen]
  exact h A' c' w' ⟨hO, hg⟩
theorem wpList_joinR {ops : Array Oper} {rest : List Oper} {o : Oper} {a : Act} {Q : Exit → Act → World → Prop} (hgd : o.guard = none) (s x : Operand)
    (ho : o.op = .call { callee := .builtin .append, args := #[s, x], argTypes := #[22, 22] })
    (w0 w : World) (v : Value) (L M : List (List C)) (A : Option Addr) (m c : Nat) (hs : a.eval s = v) (hx : a.eval x = .slice A m c) (hv : GR w0 w v L) (hy : RdQ (Off v) w A m M) (hnil : A = none → m = 0 ∧ c = 0) (hl : L.length + M.length ≤ 100000)
    (h : ∀ (A' : Option Addr) (c' : Nat) w', Aside (GR w0 w' (.slice A' (L.length + M.length) c') (L ++ M) ∧ w.grownBy w' v.ownBlock) → wpList Tryd.prog ops Q rest (a.put o.dst (.slice A' (L.length + M.length) c')) w') : wpList Tryd.prog ops Q (o :: rest) a w :=
  wpList_plain hgd fun _ hK => wp_joinR s x ho w0 w v L M A m c hs hx hv hy hnil hl fun A' c' w' hO => hK _ _ (h A' c' w' hO)
theorem step_joinR {ops : Array Oper} {o : Oper} {a : Act} {K : Act → World → Prop} {Q : Exit → Act → World → Prop} {E : Prop} (hgd : o.guard = none) (s x : Operand)
    (ho : o.op = .call { callee := .builtin .append, args := #[s, x], argTypes := #[22, 22] })
    (w0 w : World) (v : Value) (L M : List (List C)) (A : Option Addr) (m c : Nat) (hs : a.eval s = v) (hx : a.eval x = .slice A m c) (hv : GR w0 w v L) (hy : RdQ (Off v) w A m M) (hnil : A = none → m = 0 ∧ c = 0) (hl : L.length + M.length ≤ 100000)
    (h : ∀ (A' : Option Addr) (c' : Nat) w', Aside (GR w0 w' (.slice A' (L.length + M.length) c') (L ++ M) ∧ w.grownBy w' v.ownBlock) → K (a.put o.dst (.slice A' (L.length + M.length) c')) w') :
    if Region.wanted o (yielded ops a.tmps) = true then Oper.wp Tryd.prog o a w K Q else E := by
  have hw : Region.wanted o (yielded ops a.tmps) = true := by simp [Region.wanted, hgd]
  rw [if_pos hw]
  exact wp_joinR s x ho w0 w v L M A m c hs hx hv hy hnil hl h

/-- Rows that were there before the slice v was begun. -/
theorem RdR.old {w0 w : World} {v : Value} {L M : List (List C)} {A : Option Addr} {m : Nat} (h : RdR w0 A m M) (hv : GR w0 w v L) : RdQ (Off v) w A m M := by
  refine ⟨h.1, fun j l hj => ?_⟩
  obtain ⟨b, off, x, e, hlt, hc, hi, _⟩ := h.2 j l hj
  have hb := hv.bel
  exact ⟨b, off, x, e, Nat.lt_of_lt_of_le hlt hb.size, (hb.cell (p := ⟨b, off + j, none⟩) hlt).trans hc, hi.below hb, hi.off (fun g hg => (hv.own g hg).1)⟩
/-- One row, laid as a slice of its own. -/
theorem RdQ.one {w : World} {v h : Value} {l : List C} (hi : In w h l) (ho : Off v h) : RdQ (Off v) (w.alloc (.cells #[h] 25)) (some ⟨w.heap.size, 0, none⟩) 1 [l] := by
  refine ⟨rfl, fun j x hj => ?_⟩
  match j, hj with
  | 0, hj =>
    have e : l = x := by simpa using hj
    subst e
    exact ⟨w.heap.size, 0, h, rfl, by simp, cell_of_row _ _ 0 _ _ _ (heap_alloc_new w _), hi.below ((Below.refl _ _).alloc (Nat.le_refl _) _), ho⟩
  | j + 1, hj => simp at hj
/-- A row that was made behind the slice v. -/
theorem Off.fresh {w0 w1 : World} {v : Value} {L : List (List C)} {A : Option Addr} {m c : Nat} (hv : GR w0 w1 v L) (hf : Fr w1 A) : Off v (.slice A m c) := by
  intro A' m' c' e h0 p hp he
  injection e with e1 e2 e3
  subst e1
  have h1 := hf p hp
  have h2 := (hv.own _ he.symm).2
  omega
theorem GivesIn {w : World} {A : Option Addr} {n c : Nat} {l : List C} (h : Rd w A n l) (h1 : (A = none → n = 0 ∧ c = 0) ∧ n ≤ c) (hn : n ≤ 1000) : In w (.slice A n c) l := ⟨A, n, c, rfl, h, h1.2, h1.1, by omega⟩

/-- A grid as the program holds it. -/
def gv (W H : Int) (A : Option Addr) (n c : Nat) : Value := .agg #[.int .i64 W, .int .i64 H, .slice A n c]
def go (W H : Int) (A : Option Addr) (n c : Nat) : Obj := .cells #[.int .i64 W, .int .i64 H, .slice A n c] 35

end Go.Proofs.YtgmgnlgolhjhmaaDoor
