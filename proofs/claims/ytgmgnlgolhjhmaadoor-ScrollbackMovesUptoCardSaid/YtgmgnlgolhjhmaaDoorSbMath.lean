/-
  Plain mathematics of layer 12: the ends of lists, and the rows of a window (no program here; R is the type of the rows).
-/
import Derived.Test.YtgmgnlgolhjhmaaDoorRows
namespace Go.Proofs.YtgmgnlgolhjhmaaDoor
namespace Sb
variable {R : Type}

/-- The last m rows. -/
def trim (b : List R) (m : Int) : List R := if 0 < m then b.drop (b.length - m.toNat) else []
def push (b l : List R) : List R := trim (b ++ l) 500
/-- The first error of the rows that are not proper. -/
def errs (ck : R → Nat) : List R → Nat
  | [] => 0
  | x :: l => if ck x ≠ 0 then ck x else errs ck l
/-- The rows of the scrollback that a window of H rows shows, and the rows of the window. -/
def seen (b : List R) (H back : Int) : List R := (b.drop (b.length - back.toNat)).take H.toNat
def rows (ft : R → R) (b G : List R) (H back : Int) : List R := (seen b H back).map ft ++ G.take (H - back).toNat

theorem trim_length (b : List R) (m : Int) : (trim b m).length = min m.toNat b.length := by
  unfold trim
  split
  · rw [List.length_drop]; omega
  · simp; omega
theorem trim_all (b : List R) (m : Int) (h : (b.length : Int) ≤ m) (h0 : 0 < m) : trim b m = b := by
  unfold trim
  rw [if_pos h0, show b.length - m.toNat = 0 by omega]
  rfl
theorem trim_none (b : List R) (m : Int) (h : m ≤ 0) : trim b m = [] := if_neg (by omega)
theorem trim_drop (b : List R) (m : Int) : trim b m = b.drop (b.length - m.toNat) := by
  unfold trim
  split
  · rfl
  · rw [show m.toNat = 0 by omega, Nat.sub_zero, List.drop_length]
theorem trim_app (a l : List R) : trim (a ++ l) (l.length : Int) = l := by
  rw [trim_drop, List.length_append, show a.length + l.length - (l.length : Int).toNat = a.length by omega, List.drop_left]
theorem trim_trim (b : List R) (m n : Int) (hm : 0 ≤ m) (hn : 0 ≤ n) : trim (trim b m) n = trim b (min m n) := by
  rw [trim_drop, trim_drop, trim_drop, List.drop_drop, List.length_drop]
  congr 1
  omega
theorem push_small (b l : List R) (h : b.length + l.length ≤ 500) : push b l = b ++ l := trim_all _ _ (by rw [List.length_append]; omega) (by omega)
theorem push_push (b k l : List R) (h : b.length + k.length + l.length ≤ 500) : push (push b k) l = push b (k ++ l) := by
  rw [push_small b k (by omega), push_small, push_small, List.append_assoc]
  · rw [List.length_append]; omega
  · rw [List.length_append]; omega
theorem push_length (b l : List R) : (push b l).length = min 500 (b.length + l.length) := by
  unfold push
  rw [trim_length, List.length_append]
  omega
/-- A row of what was pushed: from = how many of the oldest rows are dropped. -/
theorem push_at (b l : List R) (i : Nat) : (push b l)[i]? = (b ++ l)[b.length + l.length - 500 + i]? := by
  unfold push
  rw [trim_drop, List.getElem?_drop, List.length_append]
  rfl
theorem rows_zero (ft : R → R) (b G : List R) (H : Int) (h : (G.length : Int) = H) : rows ft b G H 0 = G := by
  unfold rows seen
  rw [show (0 : Int).toNat = 0 from rfl, Nat.sub_zero, List.drop_length, List.take_nil, List.map_nil, List.nil_append, List.take_of_length_le (by omega)]
/-- Scrolling back by one row more. -/
theorem rows_step (ft : R → R) (b G : List R) (H : Int) (k : Nat) (hH : 1 ≤ H) (h : (G.length : Int) = H) (hk : k < b.length) (x : R) (hx : b[b.length - 1 - k]? = some x) :
    rows ft b G H ((k : Int) + 1) = ft x :: (rows ft b G H k).take (H - 1).toNat := by
  have hd : b.drop (b.length - (k + 1)) = x :: b.drop (b.length - k) := by
    rw [show b.length - (k + 1) = b.length - 1 - k by omega]
    obtain ⟨hi, e⟩ := List.getElem?_eq_some_iff.1 hx
    rw [List.drop_eq_getElem_cons hi, e, show b.length - 1 - k + 1 = b.length - k by omega]
  obtain ⟨n, rfl⟩ : ∃ n : Nat, H = (n : Int) + 1 := ⟨(H - 1).toNat, by omega⟩
  unfold rows seen
  rw [show ((k : Int) + 1).toNat = k + 1 by omega, hd, show ((n : Int) + 1).toNat = n + 1 by omega, List.take_succ_cons, List.map_cons, List.cons_append]
  congr 1
  rw [show ((n : Int) + 1 - 1).toNat = n by omega, show ((k : Int)).toNat = k by omega, List.take_append, List.map_take, List.map_take, List.take_take, List.length_take, List.length_map, List.length_drop, List.take_take]
  congr 1
  · congr 1; omega
  · congr 1; omega
/-- What was scrolled out and pushed is seen again. -/
theorem rows_back (ft : R → R) (b G N : List R) (H : Int) (n : Nat) (h : (G.length : Int) = H) (hn : (n : Int) ≤ H) (hft : ∀ x ∈ G, ft x = x) (hN : N.length = n) :
    rows ft (b ++ G.take n) (G.drop n ++ N) H n = G := by
  have hl : (G.take n).length = n := by rw [List.length_take]; omega
  have e1 : (G.drop n ++ N).take (H - (n : Int)).toNat = G.drop n := by
    rw [List.take_append_of_le_length (by rw [List.length_drop]; omega), List.take_of_length_le (by rw [List.length_drop]; omega)]
  unfold rows seen
  rw [e1, List.length_append, hl, show b.length + n - ((n : Int)).toNat = b.length by omega, List.drop_left, List.take_of_length_le (by omega), List.map_congr_left (g := id) (fun x hx => hft x (List.mem_of_mem_take hx)), List.map_id, List.take_append_drop]
theorem errs_zero (ck : R → Nat) (l : List R) : errs ck l = 0 ↔ ∀ x ∈ l, ck x = 0 := by
  induction l with
  | nil => simp [errs]
  | cons x l ih =>
    unfold errs
    by_cases h : ck x ≠ 0
    · rw [if_pos h]; constructor
      · intro e; exact absurd e h
      · intro e; exact absurd (e x (List.mem_cons_self ..)) h
    · rw [if_neg h, ih]
      have h' : ck x = 0 := by omega
      simp [h']
theorem errs_take (ck : R → Nat) (l : List R) (k : Nat) (x : R) (hx : l[k]? = some x) (h : ∀ y ∈ l.take k, ck y = 0) (hc : ck x ≠ 0) : errs ck l = ck x := by
  induction l generalizing k with
  | nil => simp at hx
  | cons y l ih =>
    cases k with
    | zero =>
      simp at hx
      subst hx
      unfold errs
      rw [if_pos hc]
    | succ k =>
      have h0 : ck y = 0 := h y (by simp)
      unfold errs
      rw [if_neg (by omega)]
      exact ih k (by simpa using hx) (fun z hz => h z (by simp [hz]))
theorem seen_length (b : List R) (H back : Int) (h : 0 ≤ back) (h2 : back ≤ b.length) (h3 : 0 ≤ H) : ((seen b H back).length : Int) = min H back := by
  unfold seen
  rw [List.length_take, List.length_drop]
  omega
theorem rows_length (ft : R → R) (b G : List R) (H back : Int) (h : 0 ≤ back) (h2 : back ≤ b.length) (h3 : (G.length : Int) = H) : ((rows ft b G H back).length : Int) = H := by
  unfold rows
  have := seen_length b H back h h2 (by omega)
  rw [List.length_append, List.length_map, List.length_take]
  omega
end Sb
end Go.Proofs.YtgmgnlgolhjhmaaDoor
