/-
  What cellsOf, Blank and Text of cellrow return.
-/
import Derived.Test.YtcljmmadimldlaaDoorCrFuncs
namespace Go.Proofs.YtcljmmadimldlaaDoor
open Go.RowKit Go.Shelf Cr

set_option maxHeartbeats 2000000 in
set_option maxRecDepth 100000 in
theorem blankRow_any (n f b g : Int) (w : World) :
    Calls Tryd.prog 19 #[.int .i64 n, .agg #[.int .i64 f, .int .i64 b, .int .i64 g]] w fun e w' => ∃ A m c, e = .returned (.slice A m c) ∧ GivesC w w' A m c (if 1 ≤ n ∧ n ≤ 132 then blanks n.toNat b else []) := by
  have hb := (Below.refl w.heap.size w).alloc (Nat.le_refl _) (.cells #[.int .i64 f, .int .i64 b, .int .i64 g] 24)
  have CI := Lib.hid (fun W => isLength_any n W)
  by_cases h : 1 ≤ n ∧ n ≤ 132
  · rw [if_pos h]
    rw [decide_eq_true h] at CI
    obtain ⟨m, rfl⟩ : ∃ m : Nat, n = (m : Int) := ⟨n.toNat, by omega⟩
    have CB := Lib.hid (fun W => blanks_any m (by omega) b W)
    rw [Int.toNat_natCast]
    go_enter Tryd.func19, Tryd.ntmps19
    go_wp2_with fail
    refine (CI.out _).mono ?_
    rintro e w1 ⟨rfl, rfl⟩
    go_wp2_with fail
    refine (CB.out _).mono ?_
    rintro e w2 ⟨g', rfl, hO⟩
    have HO := Lib.hid (hO.mine.gives.rebase hb)
    clear hO
    go_wp2
    go_ret
    exact ⟨_, _, _, rfl, HO.out⟩
  · rw [if_neg h]
    rw [decide_eq_false h] at CI
    go_enter Tryd.func19, Tryd.ntmps19
    go_wp2_with fail
    refine (CI.out _).mono ?_
    rintro e w1 ⟨rfl, rfl⟩
    go_wp2
    go_ret
    exact ⟨none, 0, 0, rfl, Rd.nil _ _, ⟨fun _ => ⟨rfl, rfl⟩, Nat.le_refl _⟩, hb⟩

/-- The texts of a list of cells. -/
def text (l : List C) : List UInt8 := l.flatMap fun c => c.t.data.toList
theorem text_take (l : List C) (k : Nat) (c : C) (h : l[k]? = some c) : text (l.take (k + 1)) = text (l.take k) ++ c.t.data.toList := by
  unfold text
  rw [List.take_add_one, h]
  simp
theorem text_len (l : List C) (h : ∀ c ∈ l, c.t.size ≤ 300) : (text l).length ≤ 300 * l.length := by
  induction l with
  | nil => simp [text]
  | cons c l ih =>
    have h1 := h c (by simp)
    have h2 := ih (fun x hx => h x (by simp [hx]))
    have e : text (c :: l) = c.t.data.toList ++ text l := rfl
    rw [e, List.length_append, List.length_cons, ← Lib.size_eq]
    omega
theorem fresh_builder (w : World) : Lib.IsBuilder 56 5 w.heap.size w.heap.size [] (w.alloc (.cells #[.pointer none, .slice none 0 0] 56)) :=
  .inl ⟨Nat.le_refl _, .slice none 0 0, heap_alloc_new w _, World.ownsRow_nil _ _ _ _, by simp [Value.ownBlock]⟩
theorem builder_alloc {T e : TypeId} {B b : Nat} {bs : List Value} {w : World} (h : Lib.IsBuilder T e B b bs w) (o : Obj) : Lib.IsBuilder T e B b bs (w.alloc o) := by
  have hb := (Below.refl w.heap.size w).alloc (Nat.le_refl _) o
  have k : ∀ p, Lib.BuilderAt T e B b p bs w → Lib.BuilderAt T e B b p bs (w.alloc o) := fun p hp => by
    have hlt := hp.lt
    obtain ⟨h1, v, h2, h3, h4⟩ := hp
    exact ⟨h1, v, (hb.block b hlt).trans h2, owns_low h3 hb, h4⟩
  rcases h with h | h
  · exact .inl (k _ h)
  · exact .inr (k _ h)

set_option maxHeartbeats 2000000 in
set_option maxRecDepth 100000 in
theorem text_any (A : Option Addr) (n c : Nat) (l : List C) (hn : n ≤ 1000) (ht : ∀ x ∈ l, x.t.size ≤ 300) (w : World) (hr : Rd w A n l) :
    Calls Tryd.prog 16 #[.slice A n c] w fun e w' => e = .returned (.string ⟨(text l).toArray⟩) ∧ Below w.heap.size w w' := by
  have hl : l.length = n := hr.1
  have HR := Lib.hid hr
  have HT := Lib.hid ht
  have HL := Lib.hid hl
  have b0 := (Below.refl w.heap.size w).alloc (Nat.le_refl _) (.cells #[.pointer none, .slice none 0 0] 56)
  have HF := Lib.hid (fresh_builder w)
  have B0 := Lib.hid b0
  have hnz : (n : Int) ≤ 1000 := by omega
  clear hr ht hl b0
  go_enter Tryd.func16, Tryd.ntmps16
  go_wp2
  go_loopg [5, 8] (n + 1) (fun gk _ v8 wr => ∃ k : Nat, gk + k = n + 1 ∧ k ≤ n ∧ v8 = .int .i64 (k : Int) ∧ Aside (Below w.heap.size w wr ∧ Lib.IsBuilder 56 5 w.heap.size w.heap.size (Lib.byteCells (text (l.take k))) wr))
  case atStart => exact ⟨0, by omega, Nat.zero_le _, rfl, B0.out, HF.out⟩
  case round =>
    obtain ⟨k, hg, hkn, rfl, hA⟩ := hrel
    by_cases hlt : k < n
    · obtain ⟨g', rfl⟩ : ∃ g', gk = g' + 1 := ⟨gk - 1, by omega⟩
      have hz : (k : Int) < (n : Int) := by omega
      have hz0 : (0 : Int) ≤ (k : Int) := by omega
      have hkl : k < l.length := by rw [HL.out]; exact hlt
      obtain ⟨x, hx⟩ : ∃ x, l[k]? = some x := ⟨l[k], List.getElem?_eq_getElem hkl⟩
      obtain ⟨b, off, rfl, _, p0, p1, p2, p3, p4⟩ := (HR.out.below hA.out.1).at k x hx
      have hxs := HT.out x (List.mem_of_getElem? hx)
      have hle : (text (l.take k)).length ≤ 300 * (l.take k).length := text_len _ (fun y hy => HT.out y (List.mem_of_mem_take hy))
      rw [List.length_take] at hle
      obtain ⟨W, hW⟩ : ∃ W, wr.alloc (.cells #[.string x.t, .int .i64 x.w, .int .i64 x.f, .int .i64 x.b, .int .i64 x.g] 48) = W := ⟨_, rfl⟩
      have hbW : Below wr.heap.size wr W := by rw [← hW]; exact (Below.refl _ _).alloc (Nat.le_refl _) _
      have CW := Lib.hid (writeString_any w.heap.size w.heap.size _ x.t W (by rw [← hW]; exact builder_alloc hA.out.2 _) (by rw [Lib.byteCells_length]; omega) (Nat.le_trans hA.out.1.size hbW.size))
      have hq : W.cell? ⟨wr.heap.size, 0, none⟩ = some (.string x.t) := by rw [← hW]; exact cell_of_row _ _ 0 _ _ _ (heap_alloc_new wr _)
      have HBW := Lib.hid (hA.out.1.trans (hbW.mono hA.out.1.size))
      have HX := Lib.hid (text_take l k x hx)
      clear hx hxs hle hA
      go_wp2_with fail
      refine CW.out.mono ?_
      rintro e w1 ⟨rfl, hb1, hb2⟩
      have HB1 := Lib.hid hb1
      have HB2 := Lib.hid (HBW.out.trans hb2)
      clear hb1 hb2 hq p0 p1 p2 p3 p4 hW hbW
      go_wp2
      go_roundg g'
      case measure => omega
      case rel =>
        refine ⟨k + 1, by omega, by omega, by go_num, HB2.out, ?_⟩
        rw [HX.out]
        have e : Lib.byteCells (text (l.take k) ++ x.t.data.toList) = Lib.byteCells (text (l.take k)) ++ Lib.strCells x.t := by
          simp [Lib.byteCells, Lib.strCells]
        rw [e]
        exact .inr HB1.out
    · have hz : ¬ (k : Int) < (n : Int) := by omega
      have hq : k = n := by omega
      subst hq
      have hF := hA.out.2
      rw [← HL.out, List.take_length] at hF
      have CS := Lib.hid (Tryd.Builder_String_any w.heap.size w.heap.size (text l) wr hF hA.out.1.size)
      have HB := Lib.hid hA.out.1
      clear hF hA
      go_wp2_with fail
      refine CS.out.mono ?_
      rintro e w1 ⟨rfl, hb1⟩
      go_wp2
      go_ret
      exact ⟨rfl, HB.out.trans hb1⟩

end Go.Proofs.YtcljmmadimldlaaDoor
