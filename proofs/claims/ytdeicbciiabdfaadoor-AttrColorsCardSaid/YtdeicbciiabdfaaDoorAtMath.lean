/-
  Renditions of cells as plain mathematics: what a number does to the flags and colors, what a list of numbers does, the list that selects a rendition, and the style.
-/
import Derived.Laws.BitsLemmas
namespace Go.Proofs.YtdeicbciiabdfaaDoor.At
open Go

/-- A rendition: the two colors and the flags. -/
structure R where
  f : Int
  b : Int
  g : Int

theorem R.eq {a b : R} (h1 : a.f = b.f) (h2 : a.b = b.b) (h3 : a.g = b.g) : a = b := by
  cases a; cases b; simp_all
instance : DecidableEq R := fun a b => if h : a.f = b.f ∧ a.b = b.b ∧ a.g = b.g then .isTrue (R.eq h.1 h.2.1 h.2.2) else .isFalse fun e => h (e ▸ ⟨rfl, rfl, rfl⟩)
def ok (a : R) : Prop := (-1 ≤ a.f ∧ a.f ≤ 255) ∧ (-1 ≤ a.b ∧ a.b ≤ 255) ∧ 0 ≤ a.g ∧ a.g ≤ 255
instance (a : R) : Decidable (ok a) := by unfold ok; exact inferInstance
def dflt : R := ⟨-1, -1, 0⟩
/-- The flags with the numbers that set and clear them. -/
def tb : List (Int × Int × Int) := [(1, 1, 22), (2, 2, 22), (4, 3, 23), (8, 4, 24), (16, 5, 25), (32, 7, 27), (64, 8, 28), (128, 9, 29)]
def up1 (n : Int) (g : Int) (t : Int × Int × Int) : Int := if n = t.2.1 then bits .or .i64 g t.1 else if n = t.2.2 then bits .andNot .i64 g t.1 else g
/-- The flags behind a number. -/
def fl (g n : Int) : Int := tb.foldl (up1 n) g
/-- A foreground color behind a number. -/
def col (c n : Int) : Int := if 30 ≤ n ∧ n < 38 then n - 30 else if 90 ≤ n ∧ n < 98 then n - 82 else if n = 39 then -1 else c
/-- The rendition behind a number that is neither 38 nor 48. -/
def step (a : R) (n : Int) : R := if n = 0 then dflt else ⟨col a.f n, col a.b (n - 10), fl a.g n⟩
def lv (x : Int) : Int := x * 5 / 255
/-- The color that a list denotes, and how many numbers that are; 0 if there is none. -/
def den (l : List Int) : Int × Nat :=
  if 2 ≤ l.length ∧ l.getD 0 0 = 5 ∧ l.getD 1 0 ≤ 255 then (l.getD 1 0, 2)
  else if 4 ≤ l.length ∧ l.getD 0 0 = 2 ∧ l.getD 1 0 ≤ 255 ∧ l.getD 2 0 ≤ 255 ∧ l.getD 3 0 ≤ 255 then (16 + 36 * lv (l.getD 1 0) + 6 * lv (l.getD 2 0) + lv (l.getD 3 0), 4)
  else (0, 0)
def put (a : R) (n c : Int) : R := if n = 38 then ⟨c, a.b, a.g⟩ else ⟨a.f, c, a.g⟩
/-- The rendition behind a list of numbers. -/
def run (a : R) : List Int → R
  | [] => a
  | n :: l => if n = 38 ∨ n = 48 then (if (den l).2 = 0 then a else run (put a n (den l).1) (l.drop (den l).2)) else run (step a n) l
termination_by l => l.length
decreasing_by
  · simp; omega
  · simp
def nn (l : List Int) : List Int := l.map fun n => max n 0
def apply (a : R) (l : List Int) : R := if l.length = 0 then dflt else run a (nn l)
/-- The numbers that set the flags. -/
def codes (g : Int) : List Int := (tb.filter fun t => bits .and .i64 g t.1 != 0).map fun t => t.2.1
/-- The numbers that set a color. -/
def cn (c o : Int) : List Int := if c ≤ -1 then [] else if c < 8 then [30 + o + c] else if c < 16 then [90 + o + c - 8] else [38 + o, 5, c]
def params (a : R) : List Int := 0 :: codes a.g ++ cn a.f 0 ++ cn a.b 10
def style (g : Int) : Int := if bits .and .i64 g 64 != 0 then 3 else if bits .and .i64 g 32 != 0 then 2 else if bits .and .i64 g 29 != 0 then 1 else 0

theorem run_nil (a : R) : run a [] = a := by rw [run]
theorem run_cons (a : R) (n : Int) (l : List Int) : run a (n :: l) = if n = 38 ∨ n = 48 then (if (den l).2 = 0 then a else run (put a n (den l).1) (l.drop (den l).2)) else run (step a n) l := by rw [run]
theorem run_step {a : R} {n : Int} {l : List Int} (h : ¬ (n = 38 ∨ n = 48)) : run a (n :: l) = run (step a n) l := by rw [run_cons, if_neg h]
theorem run_stop {a : R} {n : Int} {l : List Int} (h : n = 38 ∨ n = 48) (h0 : (den l).2 = 0) : run a (n :: l) = a := by rw [run_cons, if_pos h, if_pos h0]
theorem run_put {a : R} {n : Int} {l : List Int} (h : n = 38 ∨ n = 48) (h0 : (den l).2 ≠ 0) : run a (n :: l) = run (put a n (den l).1) (l.drop (den l).2) := by rw [run_cons, if_pos h, if_neg h0]

def mk (m s : Nat) (g : Int) : Int := (((g.toNat &&& m) ||| s : Nat) : Int)
theorem mk_mk (m s m' s' : Nat) (g : Int) : mk m' s' (mk m s g) = mk (m &&& m') ((s &&& m') ||| s') g := by
  unfold mk
  rw [Int.toNat_natCast]
  congr 1
  apply Nat.eq_of_testBit_eq
  intro i
  simp only [Nat.testBit_or, Nat.testBit_and]
  cases g.toNat.testBit i <;> cases m.testBit i <;> cases m'.testBit i <;> cases s.testBit i <;> cases s'.testBit i <;> rfl
theorem mk_idem (m s : Nat) (g : Int) : mk m s (mk m s g) = mk m s g := by
  unfold mk
  rw [Int.toNat_natCast]
  congr 1
  apply Nat.eq_of_testBit_eq
  intro i
  simp only [Nat.testBit_or, Nat.testBit_and]
  cases g.toNat.testBit i <;> cases m.testBit i <;> cases s.testBit i <;> rfl

theorem tb_all {p : Int × Int × Int → Prop} (h : ∀ i : Fin 8, p (tb.getD i (0, 0, 0))) : ∀ t ∈ tb, p t := by
  intro t ht
  obtain ⟨k, hk, rfl⟩ := List.mem_iff_getElem.1 ht
  have := h ⟨k, hk⟩
  simpa [List.getD_eq_getElem?_getD, hk] using this
theorem fin_of {g : Int} (h : 0 ≤ g ∧ g ≤ 255) : ∃ x : Fin 256, g = ((x : Nat) : Int) := ⟨⟨g.toNat, by omega⟩, by show g = ((g.toNat : Nat) : Int); omega⟩
theorem or_all : ∀ (x : Fin 256) (i : Fin 8), bits .or .i64 ((x : Nat) : Int) (tb.getD i (0, 0, 0)).1 = mk 255 (tb.getD i (0, 0, 0)).1.toNat ((x : Nat) : Int) ∧ bits .or .i64 ((x : Nat) : Int) (tb.getD i (0, 0, 0)).1 ≤ 255 := by decide +kernel
theorem not_all : ∀ (x : Fin 256) (i : Fin 8), bits .andNot .i64 ((x : Nat) : Int) (tb.getD i (0, 0, 0)).1 = mk (255 - (tb.getD i (0, 0, 0)).1.toNat) 0 ((x : Nat) : Int) ∧ bits .andNot .i64 ((x : Nat) : Int) (tb.getD i (0, 0, 0)).1 ≤ 255 := by decide +kernel
theorem id_all : ∀ x : Fin 256, ((x : Nat) : Int) = mk 255 0 ((x : Nat) : Int) := by decide +kernel
theorem up1_mk (n : Int) (t : Int × Int × Int) (ht : t ∈ tb) : ∃ m s, ∀ g, 0 ≤ g ∧ g ≤ 255 → up1 n g t = mk m s g ∧ 0 ≤ up1 n g t ∧ up1 n g t ≤ 255 := by
  revert t ht
  apply tb_all
  intro i
  unfold up1
  by_cases h1 : n = (tb.getD i (0, 0, 0)).2.1
  · refine ⟨255, (tb.getD i (0, 0, 0)).1.toNat, fun g hg => ?_⟩
    obtain ⟨x, rfl⟩ := fin_of hg
    have h := or_all x i
    rw [if_pos h1]
    exact ⟨h.1, by rw [h.1]; exact Int.natCast_nonneg _, h.2⟩
  · by_cases h2 : n = (tb.getD i (0, 0, 0)).2.2
    · refine ⟨255 - (tb.getD i (0, 0, 0)).1.toNat, 0, fun g hg => ?_⟩
      obtain ⟨x, rfl⟩ := fin_of hg
      have h := not_all x i
      rw [if_neg h1, if_pos h2]
      exact ⟨h.1, by rw [h.1]; exact Int.natCast_nonneg _, h.2⟩
    · refine ⟨255, 0, fun g hg => ?_⟩
      obtain ⟨x, rfl⟩ := fin_of hg
      rw [if_neg h1, if_neg h2]
      exact ⟨id_all x, hg⟩
theorem fold_mk (n : Int) (ts : List (Int × Int × Int)) (ht : ∀ t ∈ ts, t ∈ tb) : ∃ m s, ∀ g, 0 ≤ g ∧ g ≤ 255 → ts.foldl (up1 n) g = mk m s g ∧ 0 ≤ ts.foldl (up1 n) g ∧ ts.foldl (up1 n) g ≤ 255 := by
  induction ts with
  | nil =>
    refine ⟨255, 0, fun g hg => ?_⟩
    obtain ⟨x, rfl⟩ := fin_of hg
    exact ⟨id_all x, hg⟩
  | cons t ts ih =>
    obtain ⟨m, s, h1⟩ := up1_mk n t (ht t (List.mem_cons_self ..))
    obtain ⟨m', s', h2⟩ := ih fun t h => ht t (List.mem_cons_of_mem _ h)
    refine ⟨m &&& m', (s &&& m') ||| s', fun g hg => ?_⟩
    have a := h1 g hg
    have b := h2 (up1 n g t) a.2
    rw [List.foldl_cons]
    refine ⟨?_, b.2⟩
    rw [b.1, a.1, mk_mk]
theorem fl_range (g n : Int) (hg : 0 ≤ g ∧ g ≤ 255) : 0 ≤ fl g n ∧ fl g n ≤ 255 := by
  obtain ⟨m, s, h⟩ := fold_mk n tb fun _ h => h
  exact (h g hg).2
theorem fold_range (n : Int) (k : Nat) (g : Int) (hg : 0 ≤ g ∧ g ≤ 255) : 0 ≤ (tb.take k).foldl (up1 n) g ∧ (tb.take k).foldl (up1 n) g ≤ 255 := by
  obtain ⟨m, s, h⟩ := fold_mk n (tb.take k) fun _ h => List.mem_of_mem_take h
  exact (h g hg).2
theorem fold_take (n g : Int) (k : Nat) (hk : k < 8) : (tb.take (k + 1)).foldl (up1 n) g = up1 n ((tb.take k).foldl (up1 n) g) (tb.getD k (0, 0, 0)) := by
  have hl : k < tb.length := hk
  rw [List.take_succ_eq_append_getElem hl, List.foldl_append]
  simp [List.getD_eq_getElem?_getD, hl]

/-- The sum of the first flags. -/
def sumT (k : Nat) : Int := (tb.take k).foldl (fun s t => s + t.1) 0
theorem sumT_step (k : Nat) (hk : k < 8) : sumT (k + 1) = sumT k + (tb.getD k (0, 0, 0)).1 := by
  obtain rfl | rfl | rfl | rfl | rfl | rfl | rfl | rfl : k = 0 ∨ k = 1 ∨ k = 2 ∨ k = 3 ∨ k = 4 ∨ k = 5 ∨ k = 6 ∨ k = 7 := by omega
  all_goals decide
theorem sumT_range (k : Nat) (hk : k < 8) : 0 ≤ sumT k ∧ sumT k ≤ 255 ∧ 0 ≤ (tb.getD k (0, 0, 0)).1 ∧ (tb.getD k (0, 0, 0)).1 ≤ 128 := by
  obtain rfl | rfl | rfl | rfl | rfl | rfl | rfl | rfl : k = 0 ∨ k = 1 ∨ k = 2 ∨ k = 3 ∨ k = 4 ∨ k = 5 ∨ k = 6 ∨ k = 7 := by omega
  all_goals decide
theorem col_ok (c n : Int) (hc : -1 ≤ c ∧ c ≤ 255) : -1 ≤ col c n ∧ col c n ≤ 255 := by
  unfold col
  repeat' split
  all_goals omega
theorem step_ok {a : R} (h : ok a) (n : Int) : ok (step a n) := by
  unfold step
  split
  · decide
  · exact ⟨col_ok _ _ h.1, col_ok _ _ h.2.1, fl_range _ _ h.2.2⟩
theorem lv_range {x : Int} (h0 : 0 ≤ x) (h1 : x ≤ 255) : 0 ≤ lv x ∧ lv x ≤ 5 := by unfold lv; omega
theorem den_cases (l : List Int) : den l = (0, 0) ∨ den l = (l.getD 1 0, 2) ∧ 2 ≤ l.length ∧ l.getD 0 0 = 5 ∧ l.getD 1 0 ≤ 255 ∨ den l = (16 + 36 * lv (l.getD 1 0) + 6 * lv (l.getD 2 0) + lv (l.getD 3 0), 4) ∧ 4 ≤ l.length ∧ l.getD 0 0 = 2 ∧ l.getD 1 0 ≤ 255 ∧ l.getD 2 0 ≤ 255 ∧ l.getD 3 0 ≤ 255 := by
  unfold den
  split
  · rename_i h; exact .inr (.inl ⟨rfl, h⟩)
  · split
    · rename_i h; exact .inr (.inr ⟨rfl, h⟩)
    · exact .inl rfl
theorem den_len (l : List Int) : (den l).2 ≤ l.length := by
  rcases den_cases l with h | ⟨h, h1, _⟩ | ⟨h, h1, _⟩ <;> rw [h]
  · exact Nat.zero_le _
  · exact h1
  · exact h1
def pos (l : List Int) : Prop := ∀ n ∈ l, 0 ≤ n
theorem pos_getD {l : List Int} (h : pos l) (k : Nat) : 0 ≤ l.getD k 0 := by
  rw [List.getD_eq_getElem?_getD]
  rcases e : l[k]? with _ | x
  · simp
  · simp; exact h x (List.mem_of_getElem? e)
theorem pos_nn (l : List Int) : pos (nn l) := by
  intro n hn
  unfold nn at hn
  obtain ⟨x, _, rfl⟩ := List.mem_map.1 hn
  exact Int.le_max_right _ _
theorem den_ok {l : List Int} (h : pos l) : -1 ≤ (den l).1 ∧ (den l).1 ≤ 255 := by
  have h1 := pos_getD h 1
  have h2 := pos_getD h 2
  have h3 := pos_getD h 3
  rcases den_cases l with e | ⟨e, _, _, q⟩ | ⟨e, _, _, q1, q2, q3⟩ <;> rw [e]
  · decide
  · show -1 ≤ l.getD 1 0 ∧ _; exact ⟨by omega, q⟩
  · have a1 := lv_range h1 q1
    have a2 := lv_range h2 q2
    have a3 := lv_range h3 q3
    show -1 ≤ 16 + 36 * lv (l.getD 1 0) + 6 * lv (l.getD 2 0) + lv (l.getD 3 0) ∧ 16 + 36 * lv (l.getD 1 0) + 6 * lv (l.getD 2 0) + lv (l.getD 3 0) ≤ 255
    omega
theorem put_ok {a : R} (h : ok a) (n : Int) {c : Int} (hc : -1 ≤ c ∧ c ≤ 255) : ok (put a n c) := by
  unfold put
  split
  · exact ⟨hc, h.2⟩
  · exact ⟨h.1, hc, h.2.2⟩

structure Eff where
  fo : Option Int
  ba : Option Int
  m : Nat
  s : Nat
def act (e : Eff) (a : R) : R := ⟨e.fo.getD a.f, e.ba.getD a.b, mk e.m e.s a.g⟩
theorem act_act (e e' : Eff) (a : R) : act e' (act e a) = act ⟨e'.fo.or e.fo, e'.ba.or e.ba, e.m &&& e'.m, (e.s &&& e'.m) ||| e'.s⟩ a := by
  unfold act
  rw [mk_mk]
  cases e'.fo <;> cases e'.ba <;> rfl
theorem act_idem (e : Eff) (a : R) : act e (act e a) = act e a := by
  unfold act
  rw [mk_idem]
  cases e.fo <;> cases e.ba <;> rfl
theorem col_eff (n : Int) : ∃ o : Option Int, ∀ c, col c n = o.getD c := by
  unfold col
  split
  · exact ⟨some _, fun _ => rfl⟩
  · split
    · exact ⟨some _, fun _ => rfl⟩
    · split
      · exact ⟨some _, fun _ => rfl⟩
      · exact ⟨none, fun _ => rfl⟩
theorem step_eff (n : Int) : ∃ e, ∀ a, ok a → step a n = act e a := by
  unfold step
  by_cases h : n = 0
  · refine ⟨⟨some (-1), some (-1), 0, 0⟩, fun a ha => ?_⟩
    rw [if_pos h]
    simp [dflt, act, mk]
  · obtain ⟨o1, h1⟩ := col_eff n
    obtain ⟨o2, h2⟩ := col_eff (n - 10)
    obtain ⟨m, s, h3⟩ := fold_mk n tb fun _ h => h
    refine ⟨⟨o1, o2, m, s⟩, fun a ha => ?_⟩
    rw [if_neg h, h1, h2]
    unfold fl
    rw [(h3 a.g ha.2.2).1]
    rfl
theorem put_eff (n c : Int) : ∃ e, ∀ a, ok a → put a n c = act e a := by
  unfold put
  by_cases h : n = 38
  · refine ⟨⟨some c, none, 255, 0⟩, fun a ha => ?_⟩
    obtain ⟨x, hx⟩ := fin_of ha.2.2
    rw [if_pos h]
    unfold act
    rw [hx, ← id_all]
    rfl
  · refine ⟨⟨none, some c, 255, 0⟩, fun a ha => ?_⟩
    obtain ⟨x, hx⟩ := fin_of ha.2.2
    rw [if_neg h]
    unfold act
    rw [hx, ← id_all]
    rfl
theorem run_eff : ∀ (k : Nat) (l : List Int), l.length ≤ k → pos l → ∃ e, ∀ a, ok a → run a l = act e a ∧ ok (run a l)
  | k, [], _, _ => by
    refine ⟨⟨none, none, 255, 0⟩, fun a ha => ?_⟩
    obtain ⟨x, hx⟩ := fin_of ha.2.2
    rw [run_nil]
    refine ⟨?_, ha⟩
    unfold act
    rw [hx, ← id_all]
    cases a
    simp_all
  | 0, n :: l, h, _ => by simp at h
  | k + 1, n :: l, h, hp => by
    have hl : l.length ≤ k := by simpa using h
    have hpl : pos l := fun x hx => hp x (List.mem_cons_of_mem _ hx)
    by_cases h1 : n = 38 ∨ n = 48
    · by_cases h0 : (den l).2 = 0
      · obtain ⟨e, he⟩ := run_eff k [] (Nat.zero_le _) fun _ hx => by cases hx
        refine ⟨e, fun a ha => ?_⟩
        rw [run_stop h1 h0]
        have := he a ha
        rw [run_nil] at this
        exact this
      · obtain ⟨e1, he1⟩ := put_eff n (den l).1
        obtain ⟨e2, he2⟩ := run_eff k (l.drop (den l).2) (by rw [List.length_drop]; omega) fun x hx => hpl x (List.mem_of_mem_drop hx)
        refine ⟨⟨e2.fo.or e1.fo, e2.ba.or e1.ba, e1.m &&& e2.m, (e1.s &&& e2.m) ||| e2.s⟩, fun a ha => ?_⟩
        rw [run_put h1 h0]
        have q := he2 _ (put_ok ha n (den_ok hpl))
        refine ⟨?_, q.2⟩
        rw [q.1, he1 a ha]
        exact act_act e1 e2 a
    · obtain ⟨e1, he1⟩ := step_eff n
      obtain ⟨e2, he2⟩ := run_eff k l hl hpl
      refine ⟨⟨e2.fo.or e1.fo, e2.ba.or e1.ba, e1.m &&& e2.m, (e1.s &&& e2.m) ||| e2.s⟩, fun a ha => ?_⟩
      rw [run_step h1]
      have q := he2 _ (step_ok ha n)
      refine ⟨?_, q.2⟩
      rw [q.1, he1 a ha]
      exact act_act e1 e2 a
theorem run_ok {a : R} (h : ok a) {l : List Int} (hp : pos l) : ok (run a l) := by
  obtain ⟨e, he⟩ := run_eff l.length l (Nat.le_refl _) hp
  exact (he a h).2
theorem apply_ok {a : R} (h : ok a) (l : List Int) : ok (apply a l) := by
  unfold apply
  split
  · decide
  · exact run_ok h (pos_nn l)
/-- The same numbers twice. -/
theorem apply_twice {a : R} (h : ok a) (l : List Int) : apply (apply a l) l = apply a l := by
  by_cases h0 : l.length = 0
  · simp only [apply, if_pos h0]
  · simp only [apply, if_neg h0]
    obtain ⟨e, he⟩ := run_eff (nn l).length (nn l) (Nat.le_refl _) (pos_nn l)
    rw [(he _ (he a h).2).1, (he a h).1, act_idem]

theorem run_append (l l' : List Int) (h : ∀ n ∈ l, ¬ (n = 38 ∨ n = 48)) (a : R) : run a (l ++ l') = run (run a l) l' := by
  induction l generalizing a with
  | nil => rw [List.nil_append, run_nil]
  | cons n l ih =>
    have hn := h n (List.mem_cons_self ..)
    rw [List.cons_append, run_step hn, run_step hn, ih fun x hx => h x (List.mem_cons_of_mem _ hx)]
theorem apply_parts (a : R) (l l' : List Int) (h0 : l.length ≠ 0) (h0' : l'.length ≠ 0) (h : ∀ n ∈ l, ¬ (n = 38 ∨ n = 48)) : apply (apply a l) l' = apply a (l ++ l') := by
  have h2 : (l ++ l').length ≠ 0 := by rw [List.length_append]; omega
  simp only [apply, if_neg h0, if_neg h0', if_neg h2]
  unfold nn
  rw [List.map_append, run_append]
  intro n hn
  obtain ⟨x, hx, rfl⟩ := List.mem_map.1 hn
  have := h x hx
  omega

theorem fl_high {g n : Int} (h : 30 ≤ n) : fl g n = g := by
  unfold fl tb up1
  simp only [List.foldl]
  repeat rw [if_neg (by omega), if_neg (by omega)]
theorem run_low (l : List Int) (h : ∀ n ∈ l, 1 ≤ n ∧ n ≤ 29) (a : R) : (run a l).f = a.f ∧ (run a l).b = a.b := by
  induction l generalizing a with
  | nil => rw [run_nil]; exact ⟨rfl, rfl⟩
  | cons n l ih =>
    have hn := h n (List.mem_cons_self ..)
    rw [run_step (by omega)]
    have q := ih (fun x hx => h x (List.mem_cons_of_mem _ hx)) (step a n)
    have e1 : (step a n).f = a.f := by
      unfold step
      rw [if_neg (by omega)]
      unfold col
      show (if _ then _ else _) = _
      rw [if_neg (by omega), if_neg (by omega), if_neg (by omega)]
    have e2 : (step a n).b = a.b := by
      unfold step
      rw [if_neg (by omega)]
      unfold col
      show (if _ then _ else _) = _
      rw [if_neg (by omega), if_neg (by omega), if_neg (by omega)]
    rw [q.1, q.2, e1, e2]
    exact ⟨rfl, rfl⟩
theorem run_high (l : List Int) (h : ∀ n ∈ l, 30 ≤ n ∧ ¬ (n = 38 ∨ n = 48)) (a : R) : (run a l).g = a.g := by
  induction l generalizing a with
  | nil => rw [run_nil]
  | cons n l ih =>
    have hn := h n (List.mem_cons_self ..)
    rw [run_step hn.2]
    have q := ih (fun x hx => h x (List.mem_cons_of_mem _ hx)) (step a n)
    have e1 : (step a n).g = a.g := by
      unfold step
      rw [if_neg (by omega)]
      exact fl_high hn.1
    rw [q, e1]

end Go.Proofs.YtdeicbciiabdfaaDoor.At
