/-
  The document's own Format of layer 5: what it returns.
-/
import Derived.Test.YtckknodckiljkaaDoorFormat
import Derived.Test.YtckknodckiljkaaDoorCpMore
import Derived.Laws.IdiomStrings
import Derived.Deep.DeepFit
import Derived.Deep.DeepMust
import Derived.Deep.DeepCutAuto
import Derived.Test.YtckknodckiljkaaDoorParse
namespace Go.Proofs.YtckknodckiljkaaDoor.Ci
open Go.RowKit Go.Shelf

theorem app_bytes (a b : ByteArray) : (a ++ b).data.toList = a.data.toList ++ b.data.toList := by simp [ByteArray.data_append]
theorem u8_string (W : World) (c : Int) (p : UInt8) (h : c = (p.toNat : Int)) : (convert 44 9 (.slice (some ⟨W.heap.size, 0, none⟩) 1 1)).run Tryd.prog (W.alloc (.cells #[.int .u8 c] 5)) = .ok (.string ⟨#[p]⟩) (W.alloc (.cells #[.int .u8 c] 5)) := by
  subst h
  refine run_convert_bytes_back (P := Tryd.prog) _ 44 9 5 ⟨W.heap.size, 0, none⟩ 1 [p] Tryd.underlying44 Tryd.underlying5 Tryd.underlying9 ?_
  intro j hj
  obtain rfl : j = 0 := by simp at hj; omega
  have e : (W.alloc (.cells #[.int .u8 (p.toNat : Int)] 5)).heap[W.heap.size]? = some (.cells #[.int .u8 (p.toNat : Int)] 5) := heap_alloc_new W _
  exact cell_of_row _ _ 0 _ _ _ e
theorem isEmpty_of (t : ByteArray) (q : Bool) (h : t.data.toList = [] ↔ q = true) : t.toList.isEmpty = q := by
  rw [Lib.toList_data]
  cases hl : t.data.toList with
  | nil => rw [h.1 hl]; rfl
  | cons a r =>
    cases q
    · rfl
    · rw [h.2 rfl] at hl; cases hl
theorem empty_iff (s : ByteArray) : s.toList.isEmpty = decide (s.data.toList = []) := by
  rw [Lib.toList_data]
  cases s.data.toList <;> simp

end Go.Proofs.YtckknodckiljkaaDoor.Ci

namespace Go.Proofs.YtckknodckiljkaaDoor.Ci
open Go.RowKit Go.Shelf

theorem itoa_step (m : Nat) (h : 10 ≤ m) : Lib.itoa (m : Int) = Lib.itoa ((m / 10 : Nat) : Int) ++ [UInt8.ofNat (48 + m % 10)] := by
  have := Cp.itoa_more (m / 10) (m % 10) (by omega) (by omega)
  rw [← this]
  congr 1
  omega

set_option maxHeartbeats 1000000 in
set_option maxRecDepth 100000 in
theorem decimal_any (n : Nat) (hn : n ≤ 9999) (w : World) :
    Calls Tryd.prog 59 #[.int .i64 (n : Int)] w fun e w' => ∃ t : ByteArray, e = .returned (.string t) ∧ t.data.toList = Lib.itoa (n : Int) ∧ Below w.heap.size w w' := by
  have hlen := Lib.itoa_length_le (n : Int) (by omega) (by omega)
  have HLEN := Lib.hid hlen
  clear hlen
  go_enter Tryd.func59, Tryd.ntmps59
  go_wp2
  go_loopg [0, 3] (n + 1) (fun gk nv sv wr => ∃ (m : Nat) (t : ByteArray), m + 1 ≤ gk ∧ m ≤ 9999 ∧ nv = .int .i64 (m : Int) ∧ sv = .string t ∧ Aside (Lib.itoa (m : Int) ++ t.data.toList = Lib.itoa (n : Int) ∧ Below w.heap.size w wr))
  case atStart => exact ⟨n, ⟨#[]⟩, Nat.le_refl _, hn, rfl, rfl, by simp, Below.refl _ _⟩
  case round =>
    obtain ⟨m, t, hg, hm, rfl, rfl, hA⟩ := hrel
    have hts : t.size ≤ 30 := by
      have e := congrArg List.length hA.out.1
      rw [List.length_append] at e
      rw [Lib.size_eq]
      have := HLEN.out
      omega
    by_cases h10 : 10 ≤ m
    · obtain ⟨d, hd⟩ : ∃ d, m % 10 = d := ⟨_, rfl⟩
      obtain ⟨m', hm'⟩ : ∃ m', m / 10 = m' := ⟨_, rfl⟩
      have hst := itoa_step m h10
      rw [hd, hm'] at hst
      have hd10 : d < 10 := by omega
      have hz : (10 : Int) ≤ (m : Int) := by omega
      have hr : (m : Int).tmod 10 = (d : Int) := by rw [← hd]; exact (Int.ofNat_tmod m 10).symm
      have hq : (m : Int).tdiv 10 = (m' : Int) := by rw [← hm']; exact (Int.ofNat_tdiv m 10).symm
      obtain ⟨c, hc⟩ : ∃ c : UInt8, UInt8.ofNat (48 + d) = c := ⟨_, rfl⟩
      have hcz : 48 + (d : Int) = (c.toNat : Int) := by rw [← hc, Cp.ofNat_digit d hd10]; omega
      have hcv := u8_string wr (48 + (d : Int)) c hcz
      have hdz : (d : Int) < 10 := by omega
      have hdz0 : (0 : Int) ≤ (d : Int) := by omega
      have hmz : (m' : Int) ≤ 9999 := by omega
      have hmz0 : (0 : Int) ≤ (m' : Int) := by omega
      have hcat : ¬ 9223372036854775807 < (⟨#[c]⟩ : ByteArray).size + t.size := by
        have e : (⟨#[c]⟩ : ByteArray).size = 1 := rfl
        omega
      have hm10 : m' < m := by omega
      rw [hc] at hst
      have HST := Lib.hid hst
      clear hst hd hm' hc hcz
      go_wp2
      go_roundg m
      case measure => omega
      case rel =>
        refine ⟨m', _, by omega, by omega, by go_num, rfl, ?_, hA.out.2.alloc hA.out.2.size _⟩
        rw [← hA.out.1, HST.out, app_bytes]
        simp
    · have hz : ¬ (10 : Int) ≤ (m : Int) := by omega
      have hst := Cp.itoa_digit m (by omega)
      obtain ⟨c, hc⟩ : ∃ c : UInt8, UInt8.ofNat (48 + m) = c := ⟨_, rfl⟩
      have hcz : 48 + (m : Int) = (c.toNat : Int) := by rw [← hc, Cp.ofNat_digit m (by omega)]; omega
      have hcv := u8_string wr (48 + (m : Int)) c hcz
      have hmz : (m : Int) < 10 := by omega
      have hmz0 : (0 : Int) ≤ (m : Int) := by omega
      have hcat : ¬ 9223372036854775807 < (⟨#[c]⟩ : ByteArray).size + t.size := by
        have e : (⟨#[c]⟩ : ByteArray).size = 1 := rfl
        omega
      rw [hc] at hst
      have HST := Lib.hid hst
      clear hst hc hcz
      go_wp2
      go_ret
      refine ⟨_, rfl, ?_, hA.out.2.alloc hA.out.2.size _⟩
      rw [← hA.out.1, HST.out, app_bytes]

end Go.Proofs.YtckknodckiljkaaDoor.Ci

namespace Go.Proofs.YtckknodckiljkaaDoor.Ci
open Go.RowKit Go.Shelf

set_option maxRecDepth 100000 in
theorem refmarker_any (b : UInt8) (w : World) : Calls Tryd.prog 57 #[.int .u8 (b.toNat : Int)] w fun e w' => e = .returned (.bool (Cp.isMk b)) ∧ w = w' := by
  obtain ⟨R, hR⟩ : ∃ R, Cp.isMk b = R := ⟨_, rfl⟩
  rw [hR]
  unfold Cp.isMk at hR
  by_cases h1 : 60 ≤ b.toNat
  · have h1z : (60 : Int) ≤ (b.toNat : Int) := by omega
    rw [decide_eq_true h1, Bool.true_and] at hR
    subst hR
    have e : decide ((b.toNat : Int) ≤ 63) = decide (b.toNat ≤ 63) := by
      by_cases h : b.toNat ≤ 63
      · rw [decide_eq_true h, decide_eq_true (by omega)]
      · rw [decide_eq_false h, decide_eq_false (by omega)]
    have HE := Lib.hid e
    clear e
    go_enter Tryd.func57, Tryd.ntmps57
    go_wp2
    go_ret
    exact ⟨ret_bool HE.out, rfl⟩
  · have h1z : ¬ (60 : Int) ≤ (b.toNat : Int) := by omega
    rw [decide_eq_false h1, Bool.false_and] at hR
    subst hR
    go_enter Tryd.func57, Tryd.ntmps57
    go_wp2
    go_ret
    exact ⟨rfl, rfl⟩

set_option maxRecDepth 100000 in
theorem refmiddle_any (b : UInt8) (w : World) : Calls Tryd.prog 58 #[.int .u8 (b.toNat : Int)] w fun e w' => e = .returned (.bool (Cp.isMid b)) ∧ w = w' := by
  obtain ⟨R, hR⟩ : ∃ R, Cp.isMid b = R := ⟨_, rfl⟩
  rw [hR]
  unfold Cp.isMid at hR
  by_cases h1 : 32 ≤ b.toNat
  · have h1z : (32 : Int) ≤ (b.toNat : Int) := by omega
    rw [decide_eq_true h1, Bool.true_and] at hR
    subst hR
    have e : decide ((b.toNat : Int) ≤ 47) = decide (b.toNat ≤ 47) := by
      by_cases h : b.toNat ≤ 47
      · rw [decide_eq_true h, decide_eq_true (by omega)]
      · rw [decide_eq_false h, decide_eq_false (by omega)]
    have HE := Lib.hid e
    clear e
    go_enter Tryd.func58, Tryd.ntmps58
    go_wp2
    go_ret
    exact ⟨ret_bool HE.out, rfl⟩
  · have h1z : ¬ (32 : Int) ≤ (b.toNat : Int) := by omega
    rw [decide_eq_false h1, Bool.false_and] at hR
    subst hR
    go_enter Tryd.func58, Tryd.ntmps58
    go_wp2
    go_ret
    exact ⟨rfl, rfl⟩

/-- What the last number of a row that a call makes is, and where; and the row behind a store to it. -/
theorem Out.last {w0 w : World} {v : Value} {ls : List Int} {x : Int} (h : Out w0 w v (ls ++ [x])) :
    ∃ k cap, v = .slice (some ⟨k, 0, none⟩) (ls.length + 1) cap ∧ w0.heap.size ≤ k ∧ k < w.heap.size ∧ w.cell? ⟨k, ls.length, none⟩ = some (.int .i64 x) ∧ w.frozen? ⟨k, ls.length, none⟩ = false ∧
      ∀ y : Int, Out w0 (w.setCell ⟨k, ls.length, none⟩ (.int .i64 y)) v (ls ++ [y]) := by
  have hn : (ls ++ [x]).length = ls.length + 1 := by simp
  rcases h.1.2 with ⟨_, e0⟩ | ⟨k, cap, cur, e, hk, hg, _⟩
  · rw [hn] at e0; omega
  · rw [hn] at e
    have hown := h.1
    rw [e, hn] at hown
    have hlt : k < w.heap.size := by
      rcases Nat.lt_or_ge k w.heap.size with h' | h'
      · exact h'
      · rw [Array.getElem?_eq_none h'] at hg; cases hg
    refine ⟨k, cap, e, hk, hlt, ?_, hown.frozenAt _, fun y => ?_⟩
    · rw [hown.cellAt ls.length (by omega)]
      simp
    · have hs := hown.stored ls.length (.int .i64 y)
      refine ⟨?_, h.2.setCell (by show w0.heap.size ≤ k; exact hk) _⟩
      have e2 : ((ls ++ [x]).map (Value.int .i64)).set ls.length (.int .i64 y) = (ls ++ [y]).map (Value.int .i64) := by
        simp
      have e3 : (ls ++ [y]).length = ls.length + 1 := by simp
      rw [e, e3, ← e2]
      exact hs.1

/-- The document's own list and mark beside the plain mathematics' state. -/
def Beside (st : List Int × Int) (ls : List Int) (x : Int) (bg : Bool) : Prop :=
  bg = (st.1 ++ [st.2]).any (fun z => decide (9999 < z)) ∧ (bg = false → ls ++ [x] = st.1 ++ [st.2]) ∧ ls.length = st.1.length ∧ -1 ≤ x ∧ x ≤ 9999
theorem beside_start : Beside ([], -1) [] (-1) false := ⟨rfl, fun _ => rfl, rfl, by omega, by omega⟩
theorem beside_sep {st : List Int × Int} {ls : List Int} {x : Int} {bg : Bool} (h : Beside st ls x bg) : Beside (st.1 ++ [st.2], -1) (ls ++ [x]) (-1) bg := by
  obtain ⟨h1, h2, h3, h4, h5⟩ := h
  refine ⟨?_, fun e => by rw [h2 e], by simp [h3], by omega, by omega⟩
  rw [h1]
  simp
theorem beside_digit {st : List Int × Int} {ls : List Int} {x : Int} {bg : Bool} (h : Beside st ls x bg) (b : UInt8) (hb : 48 ≤ b.toNat ∧ b.toNat ≤ 57) (n : Int) (hn : n = 10 * (if x < 0 then 0 else x) + ((b.toNat : Int) - 48)) :
    (9999 < n → Beside (st.1, Cp.dg st.2 b) ls 9999 true) ∧ (¬ 9999 < n → Beside (st.1, Cp.dg st.2 b) ls n bg) := by
  obtain ⟨h1, h2, h3, h4, h5⟩ := h
  have hx : bg = false → x = st.2 := fun e => by
    have e2 := h2 e
    have := List.append_inj e2 h3
    simpa using this.2
  have hl : bg = false → ls = st.1 := fun e => (List.append_inj (h2 e) h3).1
  have hany : ∀ v : Int, (st.1 ++ [v]).any (fun z => decide (9999 < z)) = (st.1.any (fun z => decide (9999 < z)) || decide (9999 < v)) := fun v => by simp
  have hmono : 9999 < st.2 → 9999 < Cp.dg st.2 b := fun h => by unfold Cp.dg; omega
  have hn0 : 0 ≤ n := by split at hn <;> omega
  refine ⟨fun hb9 => ⟨?_, fun e => (by cases e), h3, by omega, by omega⟩, fun hb9 => ⟨?_, fun e => ?_, h3, by omega, by omega⟩⟩
  · rw [hany]
    rw [hany] at h1
    cases bg
    · have e := hx rfl
      have : 9999 < Cp.dg st.2 b := by
        unfold Cp.dg
        rw [← e]
        split at hn <;> omega
      simp [this]
    · symm at h1
      rw [Bool.or_eq_true] at h1
      rcases h1 with h1 | h1
      · rw [h1]; rfl
      · have := hmono (by simpa using h1)
        simp [this]
  · rw [hany]
    rw [hany] at h1
    cases bg
    · have e := hx rfl
      symm at h1
      rw [Bool.or_eq_false_iff] at h1
      have : ¬ 9999 < Cp.dg st.2 b := by
        unfold Cp.dg
        rw [← e]
        split at hn <;> omega
      rw [h1.1]
      simp [this]
    · symm at h1
      rw [Bool.or_eq_true] at h1
      rcases h1 with h1 | h1
      · rw [h1]; rfl
      · have := hmono (by simpa using h1)
        simp [this]
  · have e1 := hx e
    have e2 := hl e
    rw [e2]
    have : n = Cp.dg st.2 b := by
      unfold Cp.dg
      rw [← e1]
      split at hn <;> omega
    rw [this]

end Go.Proofs.YtckknodckiljkaaDoor.Ci

namespace Go.Proofs.YtckknodckiljkaaDoor.Ci
open Go.RowKit Go.Shelf

/-- The document's own first test. -/
def pre1 (p : UInt8) (ps : List Int) : Bool := (decide (p ≠ 0) && !Cp.isMk p) || (decide (ps.length = 1) && decide (ps.getD 0 0 = -1))
theorem bad_ref (p : UInt8) (ps : List Int) (i : List UInt8) : Cp.bad p ps i = (pre1 p ps || !i.all Cp.isMid || ps.any fun z => decide (z < -1)) := by
  unfold Cp.bad pre1 Cp.has
  generalize (decide (p ≠ 0) && !Cp.isMk p) = a
  generalize (!i.all Cp.isMid) = b
  by_cases h : ps.length = 1
  · rw [if_pos h, decide_eq_true h, Bool.true_and]
    match ps, h with
    | [x], _ =>
      simp only [List.getD_cons_zero, List.any_cons, List.any_nil, Bool.or_false]
      have e : (!decide (-1 < x)) = (decide (x = -1) || decide (x < -1)) := by
        by_cases h1 : x = -1
        · subst h1; rfl
        · by_cases h2 : x < -1
          · rw [decide_eq_false (by omega), decide_eq_false h1, decide_eq_true h2]; rfl
          · rw [decide_eq_true (by omega), decide_eq_false h1, decide_eq_false h2]; rfl
      rw [e]
      cases a <;> cases b <;> cases decide (x = -1) <;> rfl
  · rw [if_neg h, decide_eq_false h, Bool.not_not]
    simp
theorem any_take {p : Int → Bool} (ps : List Int) (k : Nat) (hk : k < ps.length) (h : (ps.take k).any p = false) (hb : p (ps.getD k 0) = false) : (ps.take (k + 1)).any p = false := by
  have e : ps[k] = ps.getD k 0 := by simp [List.getD_eq_getElem?_getD, hk]
  rw [List.take_succ_eq_append_getElem hk, List.any_append, h, List.any_cons, e, hb]; rfl
theorem any_here {p : Int → Bool} (ps : List Int) (k : Nat) (hk : k < ps.length) (hb : p (ps.getD k 0) = true) : ps.any p = true := by
  have e : ps[k] = ps.getD k 0 := by simp [List.getD_eq_getElem?_getD, hk]
  rw [List.any_eq_true]
  exact ⟨ps[k], List.getElem_mem hk, by rw [e]; exact hb⟩
theorem any_not {p : Int → Bool} (ps : List Int) (k : Nat) (hk : k < ps.length) (h : ps.any p = false) : p (ps.getD k 0) = false := by
  cases hb : p (ps.getD k 0)
  · rfl
  · rw [any_here ps k hk hb] at h; cases h
theorem fmt_bad {p : UInt8} {ps : List Int} {i : List UInt8} {l : List UInt8} {er : Int} (h : Cp.fmt p ps i = (l, er)) (hb : Cp.bad p ps i = true) : l = [] ∧ er = 1 := by
  unfold Cp.fmt at h
  rw [hb, if_pos rfl] at h
  injection h with h1 h2
  exact ⟨h1.symm, h2.symm⟩
theorem fmt_over {p : UInt8} {ps : List Int} {i : List UInt8} {l : List UInt8} {er : Int} (h : Cp.fmt p ps i = (l, er)) (hb : Cp.bad p ps i = false) (ho : Cp.over ps i = true) : l = [] ∧ er = 5 := by
  unfold Cp.fmt at h
  rw [hb, ho] at h
  simp only [Bool.false_eq_true, if_false, if_true] at h
  injection h with h1 h2
  exact ⟨h1.symm, h2.symm⟩
theorem fmt_good {p : UInt8} {ps : List Int} {i : List UInt8} {l : List UInt8} {er : Int} (h : Cp.fmt p ps i = (l, er)) (hb : Cp.bad p ps i = false) (ho : Cp.over ps i = false) : l = Cp.hd p ++ Cp.bd false ps ++ i ∧ er = 0 := by
  unfold Cp.fmt at h
  rw [hb, ho] at h
  simp only [Bool.false_eq_true, if_false] at h
  injection h with h1 h2
  exact ⟨h1.symm, h2.symm⟩

set_option maxHeartbeats 4000000 in
set_option maxRecDepth 100000 in
theorem refformat_any (p : UInt8) (A : Option Addr) (n c B : Nat) (ps : List Int) (i : ByteArray) (w : World) (hB : B ≤ w.heap.size) (hX : Nums w B A n ps) (hn : n ≤ 1000) (hi : i.size ≤ 1000) (hr : ∀ z ∈ ps, -9223372036854775808 ≤ z ∧ z ≤ 9223372036854775807)
    {l : List UInt8} {er : Int} (h : Cp.fmt p ps i.data.toList = (l, er)) :
    Calls Tryd.prog 34 #[.int .u8 (p.toNat : Int), .slice A n c, .string i] w (Formed w l er) := by
  have cM := refmarker_any p w
  have hHD : (Cp.hd p).length ≤ 1 := by unfold Cp.hd; split <;> simp
  have hlen : ∀ k, (Cp.bd false (ps.take k)).length ≤ 22000 := fun k => by
    have h1 := Cp.bd_len false (ps.take k) (fun z hz => by have := hr z (List.mem_of_mem_take hz); exact num_len z this.1 this.2)
    have h2 := hX.1
    have h3 : (ps.take k).length ≤ ps.length := by rw [List.length_take]; omega
    omega
  have hp0 : ((p.toNat : Int) != 0) = decide (p ≠ 0) := by
    by_cases e : p = 0
    · subst e; rfl
    · have : p.toNat ≠ 0 := fun e2 => e (UInt8.toNat_inj.1 (by rw [e2]; rfl))
      simp [e]; omega
  obtain ⟨q1, hq1⟩ : ∃ q1, pre1 p ps = q1 := ⟨_, rfl⟩
  have hbr := bad_ref p ps i.data.toList
  rw [hq1] at hbr
  unfold pre1 at hq1
  rw [hX.1] at hq1
  obtain ⟨q0, hq0⟩ : ∃ q0, decide (p ≠ 0) = q0 := ⟨_, rfl⟩
  rw [hq0] at hp0 hq1
  have HQ0 := Lib.hid hq0
  generalize Cp.isMk p = qm at cM hq1
  have HQ1 := Lib.hid hq1
  have HBR := Lib.hid hbr
  have CM := Lib.hid cM
  have H := Lib.hid h
  have HX := Lib.hid hX
  have HR := Lib.hid hr
  have HL := Lib.hid hlen
  clear cM h hX hr hlen hq1 hbr hq0
  go_enter Tryd.func34, Tryd.ntmps34
  go_upto_region 1 with fail
  go_cut [29] (fun t wx => t = .bool q1 ∧ w = wx)
  case first =>
    have hq1 := HQ1.out
    have hX := HX.out
    have hone : n = 1 → ∃ b off, A = some ⟨b, off, none⟩ ∧ w.cell? ⟨b, off, none⟩ = some (.int .i64 (ps.getD 0 0)) := fun e => by
      obtain ⟨b, off, e1, _, e2⟩ := hX.2 0 (by omega)
      exact ⟨b, off, e1, by simpa using e2⟩
    clear hX
    generalize ps.getD 0 0 = z at hq1 hone
    have tail : ∀ (q : Bool), q = false → True := fun _ _ => trivial
    clear tail
    cases q0
    · simp only [Bool.false_and, Bool.false_or] at hq1
      by_cases h1 : n = 1
      · rw [decide_eq_true h1, Bool.true_and] at hq1
        subst h1
        obtain ⟨b, off, rfl, hc⟩ := hone rfl
        have hzz : (z == -1) = q1 := by rw [← hq1]; by_cases h : z = -1 <;> simp [h]
        clear hone hq1
        go_wp2
        go_meet
        exact ⟨rfl, rfl⟩
      · rw [decide_eq_false h1, Bool.false_and] at hq1
        subst hq1
        have h1z : ((n : Int) == 1) = false := by simp; omega
        clear hone
        go_wp2
        go_meet
        exact ⟨rfl, rfl⟩
    · simp only [Bool.true_and] at hq1
      cases qm
      · simp only [Bool.not_false, Bool.true_or] at hq1
        subst hq1
        clear hone
        go_wp2_with fail
        refine CM.out.mono ?_
        rintro e w' ⟨rfl, rfl⟩
        go_wp2
        go_meet
        exact ⟨rfl, rfl⟩
      · simp only [Bool.not_true, Bool.false_or] at hq1
        by_cases h1 : n = 1
        · rw [decide_eq_true h1, Bool.true_and] at hq1
          subst h1
          obtain ⟨b, off, rfl, hc⟩ := hone rfl
          have hzz : (z == -1) = q1 := by rw [← hq1]; by_cases h : z = -1 <;> simp [h]
          clear hone hq1
          go_wp2_with fail
          refine CM.out.mono ?_
          rintro e w' ⟨rfl, rfl⟩
          go_wp2
          go_meet
          exact ⟨rfl, rfl⟩
        · rw [decide_eq_false h1, Bool.false_and] at hq1
          subst hq1
          have h1z : ((n : Int) == 1) = false := by simp; omega
          clear hone
          go_wp2_with fail
          refine CM.out.mono ?_
          rintro e w' ⟨rfl, rfl⟩
          go_wp2
          go_meet
          exact ⟨rfl, rfl⟩
  case rest =>
    obtain ⟨rfl, rfl⟩ := hcut
    clear HQ1 CM
    cases q1
    rotate_left
    · obtain ⟨rfl, rfl⟩ := fmt_bad H.out (by rw [HBR.out]; rfl)
      go_wp2
      go_ret2
      exact ⟨_, rfl, rfl, Below.refl _ _⟩
    · go_wp2
      go_loopg [8] (i.size + 1) (fun gk iv wr => ∃ j : Nat, gk + j = i.size + 1 ∧ j ≤ i.size ∧ iv = .int .i64 (j : Int) ∧ w = wr ∧ Aside ((i.data.toList.take j).all Cp.isMid = true))
      case atStart => exact ⟨0, by omega, by omega, rfl, rfl, rfl⟩
      case round =>
        obtain ⟨j, hg2, hjr, rfl, rfl, hA2⟩ := hrel
        have hrl := Lib.size_eq i
        by_cases hlt : j < i.size
        · obtain ⟨g', rfl⟩ : ∃ g', gk = g' + 1 := ⟨gk - 1, by omega⟩
          have hz : (j : Int) < (i.size : Int) := by omega
          have hzj : (0 : Int) ≤ (j : Int) := by omega
          have hjl : j < i.data.toList.length := by omega
          obtain ⟨b, hb⟩ : ∃ b, i[j] = b := ⟨_, rfl⟩
          have HB : Hid (i.data.toList[j] = b) := Lib.hid hb
          have HRL := Lib.hid hrl
          clear hrl
          have c := refmiddle_any b w
          cases hmid : Cp.isMid b
          · rw [hmid] at c
            have C := Lib.hid c
            have hna : i.data.toList.all Cp.isMid = false := not_all _ j hjl (by rw [HB.out]; exact hmid)
            obtain ⟨rfl, rfl⟩ := fmt_bad H.out (by rw [HBR.out, hna]; rfl)
            clear c hmid hna
            go_wp2_with fail
            refine C.out.mono ?_
            rintro e w' ⟨rfl, rfl⟩
            go_wp2
            go_ret2
            exact ⟨_, rfl, rfl, Below.refl _ _⟩
          · rw [hmid] at c
            have C := Lib.hid c
            have HMB := Lib.hid hmid
            clear c hmid
            go_wp2_with fail
            refine C.out.mono ?_
            rintro e w' ⟨rfl, rfl⟩
            go_wp2
            go_roundg g'
            case measure => omega
            case rel => exact ⟨j + 1, by omega, by omega, by go_num, rfl, take_all _ j hjl hA2.out (by rw [HB.out]; exact HMB.out)⟩
        · have hz : ¬ (j : Int) < (i.size : Int) := by omega
          have e : i.data.toList.take j = i.data.toList := List.take_of_length_le (by omega)
          rw [e] at hA2
          have hbr := HBR.out
          rw [hA2.out] at hbr
          simp only [Bool.not_true, Bool.or_false, Bool.false_or] at hbr
          have HBR2 := Lib.hid hbr
          clear e hrl hbr HBR hA2
          go_wp2
          go_loopg [9] (n + 1) (fun gk iv wr => ∃ j : Nat, gk + j = n + 1 ∧ j ≤ n ∧ iv = .int .i64 (j : Int) ∧ w = wr ∧ Aside ((ps.take j).any (fun z => decide (z < -1)) = false))
          case atStart => exact ⟨0, by omega, by omega, rfl, rfl, rfl⟩
          case round =>
            obtain ⟨q, hg3, hqn, rfl, rfl, hA3⟩ := hrel
            have hX := HX.out
            have hlx := Lib.hid hX.1
            by_cases hlt2 : q < n
            · obtain ⟨g', rfl⟩ : ∃ g', gk = g' + 1 := ⟨gk - 1, by omega⟩
              have hz2 : (q : Int) < (n : Int) := by omega
              have hz20 : (0 : Int) ≤ (q : Int) := by omega
              have hqx : q < ps.length := by rw [hlx.out]; exact hlt2
              obtain ⟨b, off, rfl, hb, hc⟩ := hX.2 q hlt2
              obtain ⟨z, hzz⟩ : ∃ z, ps.getD q 0 = z := ⟨_, rfl⟩
              rw [hzz] at hc
              have HZ := Lib.hid hzz
              clear hX hzz
              by_cases hm1 : z < -1
              · obtain ⟨rfl, rfl⟩ := fmt_bad H.out (by rw [HBR2.out]; exact any_here ps q hqx (by rw [HZ.out]; exact decide_eq_true hm1))
                go_wp2
                go_ret2
                exact ⟨_, rfl, rfl, Below.refl _ _⟩
              · go_wp2
                go_roundg g'
                case measure => omega
                case rel => exact ⟨q + 1, by omega, by omega, by go_num, rfl, any_take ps q hqx hA3.out (by rw [HZ.out]; exact decide_eq_false (by omega))⟩
            · have hz2 : ¬ (q : Int) < (n : Int) := by omega
              have e : ps.take q = ps := List.take_of_length_le (by rw [hlx.out]; omega)
              rw [e] at hA3
              have hbad : Cp.bad p ps i.data.toList = false := by rw [HBR2.out]; exact hA3.out
              have HBAD := Lib.hid hbad
              clear e hbad HBR2 hX
              go_upto_if 53 with fail
              go_cut [10] (fun v wx => ∃ t : ByteArray, v = .string t ∧ Aside (t.data.toList = Cp.hd p ∧ Below w.heap.size w wx))
              case first =>
                have hq0 := HQ0.out
                cases q0
                · have e : Cp.hd p = [] := by
                    unfold Cp.hd
                    rw [if_pos]
                    simpa using hq0
                  have HH := Lib.hid e
                  clear hq0 e
                  go_wp2
                  go_meet
                  exact ⟨_, rfl, by rw [HH.out], Below.refl _ _⟩
                · have e : Cp.hd p = [p] := by
                    unfold Cp.hd
                    rw [if_neg]
                    simpa using hq0
                  have HH := Lib.hid e
                  clear hq0 e
                  have hcv := u8_string w (p.toNat : Int) p rfl
                  go_wp2
                  go_meet
                  exact ⟨_, rfl, by rw [HH.out], (Below.refl _ w).alloc (Nat.le_refl _) _⟩
              case rest =>
                obtain ⟨t0, rfl, hT0⟩ := hcut
                go_wp2
                go_loopg [10, 11] (n + 1) (fun gk v iv wr => ∃ (k : Nat) (t : ByteArray), gk + k = n + 1 ∧ k ≤ n ∧ iv = .int .i64 (k : Int) ∧ v = .string t ∧ Aside (t.data.toList = Cp.hd p ++ Cp.bd false (ps.take k) ∧ (ps.take k).any (fun z => decide (9999 < z)) = false ∧ Below w.heap.size w wr))
                case atStart => exact ⟨0, t0, by omega, by omega, rfl, rfl, by rw [hT0.out.1, List.take_zero]; simp [Cp.bd], rfl, hT0.out.2⟩
                case round =>
                  obtain ⟨k, t, hg4, hkn, rfl, rfl, hA4⟩ := hrel
                  have hX := HX.out
                  have hts : t.size ≤ 23000 := by
                    rw [Lib.size_eq, hA4.out.1, List.length_append]
                    have := HL.out k
                    omega
                  by_cases hlt4 : k < n
                  · obtain ⟨g', rfl⟩ : ∃ g', gk = g' + 1 := ⟨gk - 1, by omega⟩
                    have hz4 : (k : Int) < (n : Int) := by omega
                    have hz40 : (0 : Int) ≤ (k : Int) := by omega
                    have hkx : k < ps.length := by rw [hlx.out]; exact hlt4
                    obtain ⟨b, off, rfl, hb, hc⟩ := hX.2 k hlt4
                    have hc1 := (hA4.out.2.2.cell (p := ⟨b, off + k, none⟩) (Nat.lt_of_lt_of_le hb hB)).trans hc
                    have HT := Lib.hid (take_bd ps k hkx)
                    have hlo := any_not ps k hkx hA3.out
                    have hmore := fun e => any_take ps k hkx hA4.out.2.1 e
                    have hhere := fun e => any_here (p := fun z => decide (9999 < z)) ps k hkx e
                    generalize ps.getD k 0 = z at hc1 HT hlo hmore hhere
                    have hlo : -1 ≤ z := by simpa using hlo
                    have HMORE := Lib.hid hmore
                    have HHERE := Lib.hid hhere
                    clear hX hc hmore hhere
                    by_cases h9 : 9999 < z
                    · obtain ⟨rfl, rfl⟩ := fmt_over H.out HBAD.out (by unfold Cp.over; rw [HHERE.out (decide_eq_true h9)]; simp)
                      go_wp2
                      go_ret2
                      exact ⟨_, rfl, rfl, hA4.out.2.2⟩
                    · go_upto_if 69 with fail
                      go_cut [10] (fun v wx => ∃ t' : ByteArray, v = .string t' ∧ Aside (t'.data.toList = t.data.toList ++ (if 0 < k then [59] else [])) ∧ wr = wx)
                      case first =>
                        by_cases hk0 : 0 < k
                        · have hkz : (0 : Int) < (k : Int) := by omega
                          have hcat : ¬ 9223372036854775807 < t.size + (⟨#[59]⟩ : ByteArray).size := by
                            have e : (⟨#[59]⟩ : ByteArray).size = 1 := rfl
                            omega
                          go_wp2
                          go_meet
                          exact ⟨_, rfl, by rw [if_pos hk0, app_bytes]; rfl, rfl⟩
                        · have hkz : ¬ (0 : Int) < (k : Int) := by omega
                          go_wp2
                          go_meet
                          exact ⟨_, rfl, by rw [if_neg hk0, List.append_nil]; rfl, rfl⟩
                      case rest =>
                        obtain ⟨t', rfl, hT', rfl⟩ := hcut
                        have hts' : t'.size ≤ 23001 := by
                          rw [Lib.size_eq, hT'.out, List.length_append, ← Lib.size_eq]
                          have : (if 0 < k then ([59] : List UInt8) else []).length ≤ 1 := by split <;> simp
                          omega
                        have HT' : Hid (Cp.hd p ++ Cp.bd false (ps.take (k + 1)) = t'.data.toList ++ Cp.num z) := Lib.hid (by rw [HT.out, hT'.out, hA4.out.1]; simp)
                        have HM := Lib.hid (HMORE.out (decide_eq_false h9))
                        clear HT HMORE HHERE hT'
                        by_cases hm1 : 0 ≤ z
                        · obtain ⟨zn, rfl⟩ : ∃ zn : Nat, z = zn := ⟨z.toNat, by omega⟩
                          have cD := Lib.hid (decimal_any zn (by omega) wr)
                          have hzl : (Lib.itoa (zn : Int)).length ≤ 21 := Lib.itoa_length_le (zn : Int) (by omega) (by omega)
                          have HT2 : Hid (Cp.hd p ++ Cp.bd false (ps.take (k + 1)) = t'.data.toList ++ Lib.itoa (zn : Int)) := Lib.hid (by
                            rw [HT'.out]
                            unfold Cp.num
                            rw [if_neg (by omega)])
                          clear HT'
                          go_wp2_with fail
                          refine cD.out.mono ?_
                          rintro e w5 ⟨td, rfl, htd, b5⟩
                          have htds : td.size ≤ 21 := by rw [Lib.size_eq, htd]; exact hzl
                          have HTD := Lib.hid htd
                          have hcat : ¬ 9223372036854775807 < t'.size + td.size := by omega
                          clear htd hzl cD
                          go_wp2
                          go_roundg g'
                          case measure => omega
                          case rel => exact ⟨k + 1, _, by omega, by omega, by go_num, rfl, by rw [app_bytes, HT2.out, HTD.out], HM.out, hA4.out.2.2.trans (b5.mono hA4.out.2.2.size)⟩
                        · have HT2 : Hid (Cp.hd p ++ Cp.bd false (ps.take (k + 1)) = t'.data.toList) := Lib.hid (by
                            rw [HT'.out]
                            unfold Cp.num
                            rw [if_pos (by omega), List.append_nil])
                          clear HT'
                          go_wp2
                          go_roundg g'
                          case measure => omega
                          case rel => exact ⟨k + 1, _, by omega, by omega, by go_num, rfl, HT2.out.symm, HM.out, hA4.out.2.2⟩
                  · have hz4 : ¬ (k : Int) < (n : Int) := by omega
                    have htk : ps.take k = ps := List.take_of_length_le (by rw [hlx.out]; omega)
                    rw [htk] at hA4
                    have hov : Cp.over ps i.data.toList = (decide (16 < n) || decide (2 < i.size)) := by
                      unfold Cp.over
                      rw [hA4.out.2.1, hlx.out, ← Lib.size_eq, Bool.or_false]
                    have HOV := Lib.hid hov
                    clear hX hov htk
                    have hcat : ¬ 9223372036854775807 < t.size + i.size := by omega
                    by_cases h16 : 16 < n
                    · have h16z : (16 : Int) < (n : Int) := by omega
                      obtain ⟨rfl, rfl⟩ := fmt_over H.out HBAD.out (by rw [HOV.out, decide_eq_true h16]; rfl)
                      go_wp2
                      go_ret2
                      exact ⟨_, rfl, rfl, hA4.out.2.2⟩
                    · have h16z : ¬ (16 : Int) < (n : Int) := by omega
                      by_cases h2 : 2 < i.size
                      · have h2z : (2 : Int) < (i.size : Int) := by omega
                        obtain ⟨rfl, rfl⟩ := fmt_over H.out HBAD.out (by rw [HOV.out, decide_eq_true h2, Bool.or_true])
                        go_wp2
                        go_ret2
                        exact ⟨_, rfl, rfl, hA4.out.2.2⟩
                      · have h2z : ¬ (2 : Int) < (i.size : Int) := by omega
                        obtain ⟨hl, rfl⟩ := fmt_good H.out HBAD.out (by rw [HOV.out, decide_eq_false h16, decide_eq_false h2]; rfl)
                        have HLL := Lib.hid hl
                        clear hl
                        go_wp2
                        go_ret2
                        exact ⟨_, rfl, by rw [HLL.out, app_bytes, hA4.out.1], hA4.out.2.2⟩

end Go.Proofs.YtckknodckiljkaaDoor.Ci
