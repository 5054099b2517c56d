/-
  The document's own functions of the layers 1 to 3, for long texts.
-/
import Derived.Test.YtgmgnlgolhjhmaaDoorRefAll
import Derived.Test.YtgmgnlgolhjhmaaDoorBaseD
import Derived.LoopN
import Derived.Test.YtgmgnlgolhjhmaaDoorBaseC
import Derived.Test.YtgmgnlgolhjhmaaDoorBaseA
namespace Go.Proofs.YtgmgnlgolhjhmaaDoor.Big
open Go.RowKit Go.Shelf

/-- The slice of length n at A reads, in the world w, as the bytes l. -/
def Bytes (w : World) (A : Option Addr) (n : Nat) (l : List UInt8) : Prop :=
  l.length = n ∧ ∀ j, j < n → ∃ b off, A = some ⟨b, off, none⟩ ∧ w.cell? ⟨b, off + j, none⟩ = some (.int .u8 ((l.getD j 0).toNat : Int))

/-- How long the sequences are that begin with a byte, if longer than one. -/
def sizeOfFirst (c : Nat) : Nat := if U8.seqLen c = 1 then 0 else U8.seqLen c

theorem ret_three {k1 k2 k3 : IntKind} {a b c a' b' c' : Int} (h1 : a = a') (h2 : b = b') (h3 : c = c') : Ending.returned (.tuple #[.int k1 a, .int k2 b, .int k3 c]) = .returned (.tuple #[.int k1 a', .int k2 b', .int k3 c']) := by rw [h1, h2, h3]

set_option maxHeartbeats 1000000 in
set_option maxRecDepth 100000 in
theorem limits_any (A : Option Addr) (n c : Nat) (l : List UInt8) (w : World) (hn : 1 ≤ n) (hn2 : n ≤ 100) (h : Bytes w A n l) :
    Calls Tryd.prog 84 #[.slice A n c] w fun e w' => e = .returned (.tuple #[.int .u8 ((U8.low l : Nat) : Int), .int .u8 ((U8.high l : Nat) : Int), .int .i64 ((sizeOfFirst (U8.first l) : Nat) : Int)]) ∧ w = w' := by
  obtain ⟨b, off, rfl, hc⟩ := h.2 0 (by omega)
  have hl := h.1
  have hf : (l.getD 0 0).toNat = U8.first l := by
    cases l with
    | nil => rfl
    | cons a r => rfl
  rw [hf, Nat.add_zero] at hc
  obtain ⟨f, hff⟩ : ∃ f, U8.first l = f := ⟨_, rfl⟩
  have hfl : f < 256 := by rw [← hff, ← hf]; exact UInt8.toNat_lt _
  obtain ⟨r1, hr1⟩ : ∃ r1, U8.low l = r1 := ⟨_, rfl⟩
  obtain ⟨r2, hr2⟩ : ∃ r2, U8.high l = r2 := ⟨_, rfl⟩
  obtain ⟨r3, hr3⟩ : ∃ r3, sizeOfFirst (U8.first l) = r3 := ⟨_, rfl⟩
  rw [hr1, hr2, hr3]
  unfold U8.low at hr1
  unfold U8.high at hr2
  unfold sizeOfFirst U8.seqLen at hr3
  rw [hl, hff] at hr1 hr2
  rw [hff] at hr3
  rw [hff] at hc
  have HR := Lib.hid (And.intro hr1 (And.intro hr2 hr3))
  clear hr1 hr2 hr3 hff hf hl h
  have hn0 : ((n : Int) == 0) = false := by simp; omega
  have hnz : (0 : Int) < (n : Int) := by omega
  go_enter Tryd.func84, Tryd.ntmps84
  go_wp2
  all_goals
    obtain ⟨e1, e2, e3⟩ := HR.out
    clear HR
    go_ret3
    refine ⟨ret_three ?_ ?_ ?_, rfl⟩
    all_goals
      go_light
      try simp only [beq_iff_eq, beq_eq_false_iff_ne, ne_eq] at *
    · clear e2 e3
      repeat' split at e1
      all_goals omega
    · clear e1 e3
      repeat' split at e2
      all_goals omega
    · clear e1 e2
      repeat' split at e3
      all_goals omega

theorem pre_bounds {l : List UInt8} (h : U8.Pre l) : ∀ j, 1 ≤ j → j < l.length → 128 ≤ (l.getD j 0).toNat ∧ (l.getD j 0).toNat ≤ 191 := by
  intro j hj hl
  have hfst : ∀ a b : UInt8, U8.mayF [a] b.toNat = true → 128 ≤ b.toNat ∧ b.toNat ≤ 191 := by
    intro a b hb
    have hm := U8.mayF_first hb
    revert hm
    repeat' split
    all_goals omega
  match l, h with
  | [a], _ => simp at hl; omega
  | [a, b], h =>
    obtain rfl : j = 1 := by simp at hl; omega
    exact hfst a b h.2
  | [a, b, c], h =>
    obtain rfl | rfl : j = 1 ∨ j = 2 := by simp at hl; omega
    · exact hfst a b h.2.1
    · exact U8.mayF_later (by simp) h.2.2
  | [a, b, c, d], h =>
    obtain rfl | rfl | rfl : j = 1 ∨ j = 2 ∨ j = 3 := by simp at hl; omega
    · exact hfst a b h.2.1
    · exact U8.mayF_later (by simp) h.2.2.1
    · exact U8.mayF_later (by simp) h.2.2.2

set_option maxHeartbeats 1000000 in
set_option maxRecDepth 100000 in
theorem value_two (a0 a1 : Nat) (b off c : Nat) (w : World) (h0 : w.cell? ⟨b, off, none⟩ = some (.int .u8 (a0 : Int))) (h1 : w.cell? ⟨b, off + 1, none⟩ = some (.int .u8 (a1 : Int))) (k0 : 192 ≤ a0 ∧ a0 ≤ 223) (k1 : 128 ≤ a1 ∧ a1 ≤ 191) :
    Calls Tryd.prog 85 #[.slice (some ⟨b, off, none⟩) 2 c] w fun e w' => e = .returned (.int .i32 ((a0 % 32 * 64 + a1 % 64 : Nat) : Int)) ∧ w = w' := by
  go_enter Tryd.func85, Tryd.ntmps85
  go_wp2
  refine wp_loop_rounds 2 ?_
  rw [rounds_succ]
  go_wp2
  rw [rounds_succ]
  go_wp2
  go_ret
  exact ⟨ret_int (by omega), rfl⟩

set_option maxHeartbeats 1000000 in
set_option maxRecDepth 100000 in
theorem value_three (a0 a1 a2 : Nat) (b off c : Nat) (w : World) (h0 : w.cell? ⟨b, off, none⟩ = some (.int .u8 (a0 : Int))) (h1 : w.cell? ⟨b, off + 1, none⟩ = some (.int .u8 (a1 : Int))) (h2 : w.cell? ⟨b, off + 2, none⟩ = some (.int .u8 (a2 : Int)))
    (k0 : 224 ≤ a0 ∧ a0 ≤ 239) (k1 : 128 ≤ a1 ∧ a1 ≤ 191) (k2 : 128 ≤ a2 ∧ a2 ≤ 191) :
    Calls Tryd.prog 85 #[.slice (some ⟨b, off, none⟩) 3 c] w fun e w' => e = .returned (.int .i32 ((a0 % 16 * 4096 + a1 % 64 * 64 + a2 % 64 : Nat) : Int)) ∧ w = w' := by
  go_enter Tryd.func85, Tryd.ntmps85
  go_wp2
  refine wp_loop_rounds 3 ?_
  rw [rounds_succ]
  go_wp2
  rw [rounds_succ]
  go_wp2
  rw [rounds_succ]
  go_wp2
  go_ret
  exact ⟨ret_int (by omega), rfl⟩

set_option maxHeartbeats 1000000 in
set_option maxRecDepth 100000 in
theorem value_four (a0 a1 a2 a3 : Nat) (b off c : Nat) (w : World) (h0 : w.cell? ⟨b, off, none⟩ = some (.int .u8 (a0 : Int))) (h1 : w.cell? ⟨b, off + 1, none⟩ = some (.int .u8 (a1 : Int))) (h2 : w.cell? ⟨b, off + 2, none⟩ = some (.int .u8 (a2 : Int))) (h3 : w.cell? ⟨b, off + 3, none⟩ = some (.int .u8 (a3 : Int)))
    (k0 : 240 ≤ a0 ∧ a0 ≤ 244) (k1 : 128 ≤ a1 ∧ a1 ≤ 191) (k2 : 128 ≤ a2 ∧ a2 ≤ 191) (k3 : 128 ≤ a3 ∧ a3 ≤ 191) :
    Calls Tryd.prog 85 #[.slice (some ⟨b, off, none⟩) 4 c] w fun e w' => e = .returned (.int .i32 ((a0 % 8 * 262144 + a1 % 64 * 4096 + a2 % 64 * 64 + a3 % 64 : Nat) : Int)) ∧ w = w' := by
  go_enter Tryd.func85, Tryd.ntmps85
  go_wp2
  refine wp_loop_rounds 4 ?_
  rw [rounds_succ]
  go_wp2
  rw [rounds_succ]
  go_wp2
  rw [rounds_succ]
  go_wp2
  rw [rounds_succ]
  go_wp2
  go_ret
  exact ⟨ret_int (by omega), rfl⟩

/-- value at the bytes of a whole sequence of more than one byte. -/
theorem value_any (A : Option Addr) (n c : Nat) (l : List UInt8) (w : World) (h : Bytes w A n l) (hP : U8.Pre l) (he : U8.seqLen (U8.first l) = l.length) (hn : 1 < n) :
    Calls Tryd.prog 85 #[.slice A n c] w fun e w' => e = .returned (.int .i32 ((U8.val l : Nat) : Int)) ∧ w = w' := by
  have hb := pre_bounds hP
  have h4 := U8.seqLen_le (U8.first l)
  obtain ⟨b, off, rfl, hc0⟩ := h.2 0 (by omega)
  have hc : ∀ j, j < n → w.cell? ⟨b, off + j, none⟩ = some (.int .u8 ((l.getD j 0).toNat : Int)) := fun j hj => by
    obtain ⟨b', off', e, hc⟩ := h.2 j hj
    injection e with e
    injection e with e1 e2
    subst e1 e2
    exact hc
  have hl := h.1
  match l, hP, he, hb, hl, h4 with
  | [a], _, _, _, hl, _ => simp at hl; omega
  | [a, d], _, he, hb, hl, _ =>
    simp only [List.length_cons, List.length_nil] at hl
    subst hl
    have k1 := hb 1 (by omega) (by simp)
    have k0 : 192 ≤ a.toNat ∧ a.toNat ≤ 223 := by
      have he : U8.seqLen a.toNat = 2 := he
      unfold U8.seqLen at he
      repeat' split at he
      all_goals omega
    exact value_two a.toNat d.toNat b off c w (hc 0 (by omega)) (hc 1 (by omega)) k0 k1
  | [a, d, f], _, he, hb, hl, _ =>
    simp only [List.length_cons, List.length_nil] at hl
    subst hl
    have k1 := hb 1 (by omega) (by simp)
    have k2 := hb 2 (by omega) (by simp)
    have k0 : 224 ≤ a.toNat ∧ a.toNat ≤ 239 := by
      have he : U8.seqLen a.toNat = 3 := he
      unfold U8.seqLen at he
      repeat' split at he
      all_goals omega
    exact value_three a.toNat d.toNat f.toNat b off c w (hc 0 (by omega)) (hc 1 (by omega)) (hc 2 (by omega)) k0 k1 k2
  | [a, d, f, g], _, he, hb, hl, _ =>
    simp only [List.length_cons, List.length_nil] at hl
    subst hl
    have k1 := hb 1 (by omega) (by simp)
    have k2 := hb 2 (by omega) (by simp)
    have k3 := hb 3 (by omega) (by simp)
    have k0 : 240 ≤ a.toNat ∧ a.toNat ≤ 244 := by
      have he : U8.seqLen a.toNat = 4 := he
      unfold U8.seqLen at he
      repeat' split at he
      all_goals omega
    exact value_four a.toNat d.toNat f.toNat g.toNat b off c w (hc 0 (by omega)) (hc 1 (by omega)) (hc 2 (by omega)) (hc 3 (by omega)) k0 k1 k2 k3

end Go.Proofs.YtgmgnlgolhjhmaaDoor.Big

namespace Go.Proofs.YtgmgnlgolhjhmaaDoor.Big
open Go.RowKit Go.Shelf

theorem Tryd.infoByte : (Tryd.prog.info? 5).map (fun i => (i.zero, i.size, i.bytes)) = some (some (.int .u8 0), 1, 1) := by kernel_rfl

def cellsOfBytes (l : List UInt8) : List Value := l.map fun c => Value.int .u8 (c.toNat : Int)

/-- The call that began in w0 has made the numbers xs in the slice v, and holds the bytes l in the slice u. -/
def Two (w0 w : World) (v : Value) (xs : List Int) (u : Value) (l : List UInt8) : Prop :=
  w.ownsRow w0.heap.size 21 1 v xs.length (xs.map (Value.int .i32)) ∧ w.ownsRow w0.heap.size 5 1 u l.length (cellsOfBytes l) ∧ Below w0.heap.size w0 w

theorem Two.start (w : World) : Two w ((w.alloc (.cells #[] 21)).alloc (.cells #[] 5)) (.slice (some ⟨w.heap.size, 0, none⟩) 0 0) [] (.slice (some ⟨w.heap.size + 1, 0, none⟩) 0 0) [] := by
  refine ⟨(World.ownsRow_made w #[] 0 (Nat.le_refl _) (Nat.zero_le _) rfl).alloc _, ?_, ((Below.refl _ _).alloc (Nat.le_refl _) _).alloc (by simp) _⟩
  have h := World.ownsRow_made (base := w.heap.size) (e := 5) (size := 1) (w.alloc (.cells #[] 21)) #[] 0 (by simp) (Nat.zero_le _) rfl
  have e : (w.alloc (.cells #[] 21)).heap.size = w.heap.size + 1 := by simp
  rw [e] at h
  exact h
theorem Two.out {w0 w : World} {v u : Value} {xs : List Int} {l : List UInt8} (h : Two w0 w v xs u l) : Out w0 w v xs := ⟨h.1, h.2.2⟩
theorem Two.drewN {w0 w : World} {v u : Value} {xs : List Int} {l : List UInt8} (h : Two w0 w v xs u l) (n : Nat) : Two w0 (w.drewN n) v xs u l := ⟨h.1, h.2.1, below_drewN h.2.2 n⟩
theorem Two.alloc {w0 w : World} {v u : Value} {xs : List Int} {l : List UInt8} (h : Two w0 w v xs u l) (o : Obj) : Two w0 (w.alloc o) v xs u l := ⟨h.1.alloc o, h.2.1.alloc o, h.2.2.alloc h.2.2.size o⟩
theorem Two.fresh {w0 w : World} {v u : Value} {xs : List Int} {l : List UInt8} (h : Two w0 w v xs u l) : Two w0 (w.alloc (.cells #[] 5)) v xs (.slice (some ⟨w.heap.size, 0, none⟩) 0 0) [] :=
  ⟨h.1.alloc _, World.ownsRow_made w #[] 0 h.2.2.size (Nat.zero_le _) rfl, h.2.2.alloc h.2.2.size _⟩
theorem Two.apart {w0 w : World} {v u : Value} {xs : List Int} {l : List UInt8} (h : Two w0 w v xs u l) : v.ownBlock = none ∨ v.ownBlock ≠ u.ownBlock := by
  rcases h.1.2 with ⟨rfl, _⟩ | ⟨g, cap, cur, rfl, _, hg, _⟩
  · exact .inl rfl
  · right
    rcases h.2.1.2 with ⟨rfl, _⟩ | ⟨g', cap', cur', rfl, _, hg', _⟩
    · simp [Value.ownBlock]
    · intro e
      have e : g = g' := by simpa [Value.ownBlock] using e
      subst e
      rw [hg] at hg'
      injection hg' with hg'
      injection hg' with _ ht
      exact absurd ht (by decide)
theorem Two.apart' {w0 w : World} {v u : Value} {xs : List Int} {l : List UInt8} (h : Two w0 w v xs u l) : u.ownBlock = none ∨ u.ownBlock ≠ v.ownBlock := by
  rcases h.2.1.2 with ⟨rfl, _⟩ | ⟨g', cap', cur', e, _⟩
  · exact .inl rfl
  · right
    rcases h.apart with h1 | h1
    · rw [h1, e]; simp [Value.ownBlock]
    · exact fun e => h1 e.symm
/-- The slice of bytes, as it stands in a slot. -/
theorem Two.kept {w0 w : World} {v u : Value} {xs : List Int} {l : List UInt8} (h : Two w0 w v xs u l) : ∃ A n cap, u = .slice A n cap ∧ Bytes w A n l := by
  rcases h.2.1.2 with ⟨e, e0⟩ | ⟨g, cap, cur, e, _, hh, _, _, _, ht⟩
  · exact ⟨none, 0, 0, e, e0, fun j hj => by omega⟩
  · refine ⟨_, _, cap, e, rfl, fun j hj => ⟨g, 0, rfl, ?_⟩⟩
    have hc : cur[j]? = some (.int .u8 ((l.getD j 0).toNat : Int)) := by
      have e1 := congrArg (fun l : List Value => l[j]?) ht
      simp only [Nat.mul_one, List.getElem?_take, if_pos hj, Array.getElem?_toList, cellsOfBytes, List.getElem?_map] at e1
      rw [e1, List.getElem?_eq_getElem (by omega), List.getD_eq_getElem?_getD, List.getElem?_eq_getElem (by omega)]
      rfl
    rw [Nat.zero_add]
    simp [World.cell?, hh, hc]

theorem wpList_push_out {ops : Array Oper} {rest : List Oper} {o : Oper} {a : Act} {Q : Exit → Act → World → Prop} (hgd : o.guard = none) (s x : Operand)
    (ho : o.op = .call { callee := .builtin .append, args := #[s, x], argTypes := #[82, 82] })
    (w0 w : World) (v u : Value) (xs : List Int) (l : List UInt8) (z : Int) (hs : a.eval s = v) (hx : a.eval x = .slice (some ⟨w.heap.size, 0, none⟩) 1 1) (h2 : Two w0 w v xs u l) (hl : xs.length ≤ 10000000)
    (h : ∀ v' w1, Two w0 w1 v' (xs ++ [z]) u l → wpList Tryd.prog ops Q rest (a.put o.dst v') w1) : wpList Tryd.prog ops Q (o :: rest) a (w.alloc (.cells #[.int .i32 z] 21)) := by
  obtain ⟨i0, hi, hz0, hz1, hz2⟩ := info_parts Tryd.infoRune
  have hsz := h2.2.2.size
  have h3 := h2.alloc (.cells #[.int .i32 z] 21)
  refine wpList_append_own _ hgd s x 82 ho w0.heap.size 21 i0 (.int .i32 0) 1 4 Tryd.underlying82 hi hz0 hz1 hz2 rfl (by decide) v xs.length (xs.map (Value.int .i32)) hs h3.1 ⟨w.heap.size, 0, none⟩ 1 1 [.int .i32 z] hx rfl ?_ ?_ ?_ ?_ ?_ ?_
  · intro j u hj
    match j, hj with
    | 0, hj => simp at hj; subst hj; simp [Addr.add]
  · intro u hu; simp at hu; subst hu; rfl
  · unfold maxLen; omega
  · omega
  · simp; omega
  · intro v' w1 hown hgrow _
    exact h v' w1 ⟨by simpa using hown, h3.2.1.kept hgrow h3.apart', h3.2.2.grown hgrow (by simp; omega) (fun k hk => (h3.1.lt k hk).1)⟩
theorem wpList_push_kept {ops : Array Oper} {rest : List Oper} {o : Oper} {a : Act} {Q : Exit → Act → World → Prop} (hgd : o.guard = none) (s x : Operand)
    (ho : o.op = .call { callee := .builtin .append, args := #[s, x], argTypes := #[104, 104] })
    (w0 w : World) (v u : Value) (xs : List Int) (l : List UInt8) (b : UInt8) (hs : a.eval s = u) (hx : a.eval x = .slice (some ⟨w.heap.size, 0, none⟩) 1 1) (h2 : Two w0 w v xs u l) (hl : l.length ≤ 10000000)
    (h : ∀ u' w1, Two w0 w1 v xs u' (l ++ [b]) → wpList Tryd.prog ops Q rest (a.put o.dst u') w1) : wpList Tryd.prog ops Q (o :: rest) a (w.alloc (.cells #[.int .u8 (b.toNat : Int)] 5)) := by
  obtain ⟨i0, hi, hz0, hz1, hz2⟩ := info_parts Tryd.infoByte
  have hsz := h2.2.2.size
  have h3 := h2.alloc (.cells #[.int .u8 (b.toNat : Int)] 5)
  refine wpList_append_own _ hgd s x 104 ho w0.heap.size 5 i0 (.int .u8 0) 1 1 Tryd.underlying104 hi hz0 hz1 hz2 rfl (by decide) u l.length (cellsOfBytes l) hs h3.2.1 ⟨w.heap.size, 0, none⟩ 1 1 [.int .u8 (b.toNat : Int)] hx rfl ?_ ?_ ?_ ?_ ?_ ?_
  · intro j u hj
    match j, hj with
    | 0, hj => simp at hj; subst hj; simp [Addr.add]
  · intro u hu; simp at hu; subst hu; rfl
  · unfold maxLen; omega
  · omega
  · simp; omega
  · intro v' w1 hown hgrow _
    exact h v' w1 ⟨h3.1.kept hgrow h3.apart, by simpa [cellsOfBytes] using hown, h3.2.2.grown hgrow (by simp; omega) (fun k hk => (h3.2.1.lt k hk).1)⟩

theorem push_bytes (l : List UInt8) : ∀ s : ByteArray, (l.map fun c => (c.toNat : Int)).foldl (fun r n => r.push (UInt8.ofNat n.toNat)) s = ⟨(s.data.toList ++ l).toArray⟩ := by
  induction l with
  | nil => intro s; cases s; simp
  | cons a l ih =>
    intro s
    rw [List.map_cons, List.foldl_cons, ih]
    simp
theorem run_bytes_string (W : World) (A : Option Addr) (n c : Nat) (l : List UInt8) (h : Bytes W A n l) : (convert 104 9 (.slice A n c)).run Tryd.prog W = .ok (.string ⟨l.toArray⟩) W := by
  rw [run_convert_bytes_string W 104 9 5 A n c Tryd.underlying104 Tryd.underlying5 Tryd.underlying9]
  cases A with
  | none =>
    have hl : l = [] := by
      rcases Nat.eq_zero_or_pos n with h0 | h0
      · exact List.eq_nil_of_length_eq_zero (h.1.trans h0)
      · obtain ⟨b, off, e, _⟩ := h.2 0 h0; cases e
    subst hl
    rfl
  | some ad =>
    have hc : ∀ j, j < n → W.cell? (ad.add j) = some (.int .u8 ((l.getD j 0).toNat : Int)) := fun j hj => by
      obtain ⟨b, off, e, hc⟩ := h.2 j hj
      injection e with e
      subst e
      by_cases h0 : j = 0
      · subst h0; simpa [Addr.add] using hc
      · simpa [Addr.add, h0] using hc
    have hload := run_loadCells (P := Tryd.prog) W ad n (fun j => .int .u8 ((l.getD j 0).toNat : Int)) hc
    have e : (List.range n).map (fun j => Value.int .u8 ((l.getD j 0).toNat : Int)) = (l.map fun c => (c.toNat : Int)).map (Value.int .u8) := by
      apply List.ext_getElem
      · simp [h.1]
      · intro i h1 h2
        simp at h1 h2
        simp [h2]
    rw [e] at hload
    rw [run_bytesToString W ad n c (l.map fun c => (c.toNat : Int)) hload, push_bytes]
    simp

end Go.Proofs.YtgmgnlgolhjhmaaDoor.Big

namespace Go.Proofs.YtgmgnlgolhjhmaaDoor.Big
open Go.RowKit Go.Shelf



theorem bytes_one (w : World) (b : UInt8) (t : TypeId) : Bytes (w.alloc (.cells #[.int .u8 (b.toNat : Int)] t)) (some ⟨w.heap.size, 0, none⟩) 1 [b] := by
  refine ⟨rfl, fun j hj => ⟨w.heap.size, 0, rfl, ?_⟩⟩
  obtain rfl : j = 0 := by omega
  have e : (w.alloc (.cells #[.int .u8 (b.toNat : Int)] t)).heap[w.heap.size]? = some (.cells #[.int .u8 (b.toNat : Int)] t) := heap_alloc_new w _
  unfold World.cell?
  rw [e]
  rfl

/-- What is left to do: from place k on, with the numbers o and the open bytes q. -/
def Left (s : ByteArray) (k : Nat) (o : List Int) (q : List UInt8) : Prop :=
  U8.runFrom (o, q) (s.data.toList.drop k) = U8.run s.data.toList ∧ U8.Opened q

theorem left_step {s : ByteArray} {k : Nat} {o o' : List Int} {q q' : List UInt8} {b : UInt8} (h : Left s k o q) (hd : s.data.toList.drop k = b :: s.data.toList.drop (k + 1)) (hs : U8.step (o, q) b = (o', q')) : Left s (k + 1) o' q' := by
  have h1 := h.1
  rw [hd, U8.runFrom_cons, hs] at h1
  refine ⟨h1, ?_⟩
  have := U8.opened_step (st := (o, q)) b h.2
  rw [hs] at this
  exact this
theorem left_again {s : ByteArray} {k : Nat} {o : List Int} {q : List UInt8} {b : UInt8} (h : Left s k o q) (hd : s.data.toList.drop k = b :: s.data.toList.drop (k + 1)) (hq : q ≠ []) (hm : U8.mayF q b.toNat = false) : Left s k (o ++ [65533]) [] := by
  refine ⟨?_, .inl rfl⟩
  rw [← h.1, hd, U8.runFrom_cons, U8.runFrom_cons, U8.step_again o q b hq hm]

set_option maxHeartbeats 2000000 in
set_option maxRecDepth 100000 in
theorem refdecode_any (p c : ByteArray) (w : World) (hsz : p.size + c.size ≤ 1100000) :
    Calls Tryd.prog 69 #[.string p, .string c] w fun e w' => ∃ A n cap, e = .returned (.tuple #[.slice A n cap, .string ⟨(U8.run (p.data.toList ++ c.data.toList)).2.toArray⟩]) ∧
      Out w w' (.slice A n cap) (U8.run (p.data.toList ++ c.data.toList)).1 := by
  obtain ⟨s, hs⟩ : ∃ s, p ++ c = s := ⟨_, rfl⟩
  have hl : p.data.toList ++ c.data.toList = s.data.toList := by rw [← hs]; simp [ByteArray.data_append]
  have hss : s.size ≤ 1100000 := by rw [← hs, ByteArray.size_append]; exact hsz
  rw [hl]
  clear hl
  have hol : ∀ k o q, Left s k o q → o.length ≤ 1100000 := fun k o q h => by
    have h1 := U8.runFrom_len o q (s.data.toList.drop k)
    rw [h.1] at h1
    have h2 := U8.run_out_le s.data.toList
    rw [← Lib.size_eq] at h2
    omega
  have HOL := Lib.hid hol
  clear hol
  go_enter Tryd.func69, Tryd.ntmps69
  go_wp2
  clear hs hsz
  go_loopg [7, 8, 9] (2 * s.size + 1) (fun gk v u i wr => ∃ (k : Nat) (o : List Int) (q : List UInt8), 2 * (s.size - k) + min 1 q.length < gk ∧ k ≤ s.size ∧ i = .int .i64 (k : Int) ∧ Left s k o q ∧ Two w wr v o u q)
  case atStart => exact ⟨0, [], [], by simp, Nat.zero_le _, rfl, ⟨rfl, .inl rfl⟩, Two.start w⟩
  case round =>
    obtain ⟨k, o, q, hg, hks, rfl, hleft, h2⟩ := hrel
    have hoz := HOL.out k o q hleft
    by_cases hlt : k < s.size
    · have hz : (k : Int) < (s.size : Int) := by omega
      obtain ⟨b, hb⟩ : ∃ b, s[k] = b := ⟨_, rfl⟩
      have hbl : b.toNat < 256 := b.toNat_lt
      have Hdrop : Hid (s.data.toList.drop k = b :: s.data.toList.drop (k + 1)) := Lib.hid (by
        rw [← hb]; exact List.drop_eq_getElem_cons (by rw [← Lib.size_eq]; exact hlt))
      have HL := Lib.hid hleft
      clear hleft HOL
      obtain ⟨A, n, cap, hu, hB⟩ := h2.kept
      subst hu
      have hn : q.length = n := hB.1
      by_cases hq : q = []
      · subst hq
        obtain rfl : n = 0 := hn.symm
        have cL := limits_any (some ⟨wr.heap.size, 0, none⟩) 1 1 [b] (wr.alloc (.cells #[.int .u8 (b.toNat : Int)] 5)) (by decide) (by decide) (bytes_one wr b 5)
        obtain ⟨z, hz3⟩ : ∃ z, sizeOfFirst (U8.first [b]) = z := ⟨_, rfl⟩
        rw [hz3] at cL
        generalize U8.low [b] = x1 at cL
        generalize U8.high [b] = x2 at cL
        have CL := Lib.hid cL
        have h3 := h2.alloc (.cells #[.int .u8 (b.toNat : Int)] 5)
        have HZ : Hid ((if U8.seqLen b.toNat = 1 then 0 else U8.seqLen b.toNat) = z) := Lib.hid hz3
        clear cL hz3 hB h2
        have hcase : b.toNat < 128 ∨ (128 ≤ b.toNat ∧ 1 < U8.seqLen b.toNat ∧ z = U8.seqLen b.toNat) ∨ (128 ≤ b.toNat ∧ U8.seqLen b.toNat = 0 ∧ z = 0) := by
          have h1 := HZ.out
          rcases Nat.lt_or_ge b.toNat 128 with h | h
          · exact .inl h
          · right
            have hne : U8.seqLen b.toNat ≠ 1 := by
              unfold U8.seqLen
              repeat' split
              all_goals omega
            rw [if_neg hne] at h1
            omega
        rcases hcase with hc1 | ⟨hc1, hc2, hc3⟩ | ⟨hc1, hc2, hc3⟩
        · have hbz : (b.toNat : Int) < 128 := by omega
          go_wp2_with (first | (go_at_call 84; refine CL.out.mono ?_; rintro e w1 ⟨rfl, rfl⟩; generalize wr.alloc (.cells #[.int .u8 (b.toNat : Int)] 5) = w1 at h3 ⊢) | (at_builtin; refine wpList_push_out rfl (.tmp 47) (.tmp 50) rfl w _ _ _ o [] (b.toNat : Int) rfl rfl h3 (by omega) ?_; intro v1 w2 h4))
          go_roundg (2 * (s.size - (k + 1)) + 1)
          case measure => simp at hg; omega
          case rel => exact ⟨k + 1, o ++ [(b.toNat : Int)], [], by simp, by omega, by go_num, left_step HL.out Hdrop.out (U8.step_ascii o b hc1), h4⟩
        · have hbz : ¬ (b.toNat : Int) < 128 := by omega
          have hzz : (0 : Int) < (z : Int) := by omega
          clear hc3
          go_wp2_with (first | (go_at_call 84; refine CL.out.mono ?_; rintro e w1 ⟨rfl, rfl⟩; generalize wr.alloc (.cells #[.int .u8 (b.toNat : Int)] 5) = w1 at h3 ⊢) | (at_builtin; refine wpList_push_kept rfl (.tmp 55) (.tmp 57) rfl w _ _ _ o [] b rfl rfl h3 (by simp) ?_; intro v1 w2 h4))
          go_roundg (2 * (s.size - (k + 1)) + 2)
          case measure => simp at hg; omega
          case rel => exact ⟨k + 1, o, [b], by simp, by omega, by go_num, left_step HL.out Hdrop.out (U8.step_begin o b hc2), h4⟩
        · have hbz : ¬ (b.toNat : Int) < 128 := by omega
          have hzz : ¬ (0 : Int) < (z : Int) := by omega
          clear hc3
          go_wp2_with (first | (go_at_call 84; refine CL.out.mono ?_; rintro e w1 ⟨rfl, rfl⟩; generalize wr.alloc (.cells #[.int .u8 (b.toNat : Int)] 5) = w1 at h3 ⊢) | (at_builtin; refine wpList_push_out rfl (.tmp 41) (.tmp 42) rfl w _ _ _ o [] 65533 rfl rfl h3 (by omega) ?_; intro v1 w2 h4))
          go_roundg (2 * (s.size - (k + 1)) + 1)
          case measure => simp at hg; omega
          case rel => exact ⟨k + 1, o ++ [65533], [], by simp, by omega, by go_num, left_step HL.out Hdrop.out (U8.step_bad o b hc2), h4⟩
      · have hq1 : 1 ≤ q.length := List.length_pos_iff.2 hq
        have hop := HL.out.2
        have hq3 := U8.opened_length hop
        have cL := limits_any A n cap q wr (by omega) (by omega) hB
        have HM : Hid ((decide (U8.low q ≤ b.toNat) && decide (b.toNat ≤ U8.high q)) = U8.mayF q b.toNat) := Lib.hid rfl
        obtain ⟨z, hz3⟩ : ∃ z, sizeOfFirst (U8.first q) = z := ⟨_, rfl⟩
        rw [hz3] at cL
        have HZ : Hid (z = U8.seqLen (U8.first q)) := Lib.hid (by
          rw [← hz3]
          unfold sizeOfFirst
          rw [if_neg]
          rcases hop with h | h
          · exact absurd h hq
          · have := h.2; omega)
        generalize U8.low q = x1 at cL HM
        generalize U8.high q = x2 at cL HM
        have CL := Lib.hid cL
        clear cL hz3 hB hop
        have hnz : ((n : Int) == 0) = false := by simp; omega
        have hnp : (0 : Int) < (n : Int) := by omega
        have HN := Lib.hid hn
        clear hn
        have hcase : (b.toNat < x1 ∨ x2 < b.toNat) ∨ (x1 ≤ b.toNat ∧ b.toNat ≤ x2) := by omega
        rcases hcase with hc1 | ⟨hc1, hc2⟩
        · have hmf : Hid (U8.mayF q b.toNat = false) := Lib.hid (by
            rw [← HM.out]
            simp only [Bool.and_eq_false_iff, decide_eq_false_iff_not]
            omega)
          by_cases hc2 : b.toNat < x1
          · have hcz : (b.toNat : Int) < (x1 : Int) := by omega
            go_wp2_with (first | (go_at_call 84; refine CL.out.mono ?_; rintro e w1 ⟨rfl, rfl⟩) | (at_builtin; refine wpList_push_out rfl (.tmp 73) (.tmp 74) rfl w wr _ _ o q 65533 rfl rfl h2 (by omega) ?_; intro v1 w2 h4))
            go_roundg (2 * (s.size - k) + 1)
            case measure => omega
            case rel => exact ⟨k, o ++ [65533], [], by simp, by omega, rfl, left_again HL.out Hdrop.out hq hmf.out, h4.fresh⟩
          · have hcz : ¬ (b.toNat : Int) < (x1 : Int) := by omega
            have hcz2 : (x2 : Int) < (b.toNat : Int) := by omega
            go_wp2_with (first | (go_at_call 84; refine CL.out.mono ?_; rintro e w1 ⟨rfl, rfl⟩) | (at_builtin; refine wpList_push_out rfl (.tmp 73) (.tmp 74) rfl w wr _ _ o q 65533 rfl rfl h2 (by omega) ?_; intro v1 w2 h4))
            go_roundg (2 * (s.size - k) + 1)
            case measure => omega
            case rel => exact ⟨k, o ++ [65533], [], by simp, by omega, rfl, left_again HL.out Hdrop.out hq hmf.out, h4.fresh⟩
        · have hmt : U8.mayF q b.toNat = true := by
            rw [← HM.out]
            simp only [Bool.and_eq_true, decide_eq_true_eq]
            omega
          have hcz : ¬ (b.toNat : Int) < (x1 : Int) := by omega
          have hcz2 : ¬ (x2 : Int) < (b.toNat : Int) := by omega
          obtain ⟨hP, hstep⟩ := U8.step_more o q b hq HL.out.2 hmt
          rw [← HZ.out] at hstep
          have hql : (q ++ [b]).length = q.length + 1 := by simp
          have HS := Lib.hid hstep
          have HP := Lib.hid hP
          clear hstep hP hmt HM
          by_cases hend : q.length + 1 = z
          · have hstep2 : Hid (U8.step (o, q) b = (o ++ [(U8.val (q ++ [b]) : Int)], [])) := Lib.hid (by rw [HS.out, if_pos (hql.trans hend)])
            have hwhole : Hid (U8.seqLen (U8.first (q ++ [b])) = (q ++ [b]).length) := Lib.hid (by rw [U8.first_snoc hq, ← HZ.out, hql]; exact hend.symm)
            have HEnd := Lib.hid hend
            have HQL := Lib.hid hql
            clear hend hql
            go_wp2_with (first | (go_at_call 84; refine CL.out.mono ?_; rintro e w1 ⟨rfl, rfl⟩) | (at_builtin; refine wpList_push_kept rfl (.tmp 79) (.tmp 81) rfl w wr _ _ o q b rfl rfl h2 (by omega) ?_; intro v1 w2 h4; obtain ⟨A4, n4, cap4, hv4, hB4⟩ := h4.kept; subst hv4; have hn4 : ((n4 : Int) == (z : Int)) = true := (by rw [← hB4.1, HQL.out, HEnd.out]; simp); have hn5 : 1 < n4 := (by rw [← hB4.1, HQL.out]; omega)) | (go_at_call 85; refine (value_any A4 n4 cap4 (q ++ [b]) w2 hB4 HP.out hwhole.out hn5).mono ?_; rintro e w3 ⟨rfl, rfl⟩) | (at_builtin; refine wpList_push_out rfl (.tmp 87) (.tmp 90) rfl w w2 _ _ o (q ++ [b]) _ rfl rfl h4 (by omega) ?_; intro v5 w5 h5))
            go_roundg (2 * (s.size - (k + 1)) + 1)
            case measure => omega
            case rel => exact ⟨k + 1, o ++ [(U8.val (q ++ [b]) : Int)], [], by simp, by omega, by go_num, left_step HL.out Hdrop.out hstep2.out, h5.fresh⟩
          · have hstep2 : Hid (U8.step (o, q) b = (o, q ++ [b])) := Lib.hid (by rw [HS.out, if_neg (fun e => hend (hql.symm.trans e))])
            have HEnd := Lib.hid hend
            have HQL := Lib.hid hql
            clear hend hql
            go_wp2_with (first | (go_at_call 84; refine CL.out.mono ?_; rintro e w1 ⟨rfl, rfl⟩) | (at_builtin; refine wpList_push_kept rfl (.tmp 79) (.tmp 81) rfl w wr _ _ o q b rfl rfl h2 (by omega) ?_; intro v1 w2 h4; obtain ⟨A4, n4, cap4, hv4, hB4⟩ := h4.kept; subst hv4; have hn4 : ((n4 : Int) == (z : Int)) = false := (by rw [← hB4.1, HQL.out]; have := HEnd.out; simp; omega)))
            go_roundg (2 * (s.size - (k + 1)) + 2)
            case measure => omega
            case rel => exact ⟨k + 1, o, q ++ [b], by simp, by omega, by go_num, left_step HL.out Hdrop.out hstep2.out, h4⟩
    · have hkz : ¬ (k : Int) < (s.size : Int) := by omega
      obtain ⟨A, n, cap, hu, hB⟩ := h2.kept
      subst hu
      have hrun : U8.run s.data.toList = (o, q) := by
        rw [← hleft.1, List.drop_of_length_le (by rw [← Lib.size_eq]; omega), U8.runFrom_nil]
      have HR := Lib.hid hrun
      clear hrun hleft HOL
      have hcv : ∀ W : World, Bytes W A n q → (convert 104 9 (.slice A n cap)).run Tryd.prog W = .ok (.string ⟨q.toArray⟩) W := fun W h => run_bytes_string W A n cap q h
      have hcv2 : ∀ m, (convert 104 9 (.slice A n cap)).run Tryd.prog (wr.drewN m) = .ok (.string ⟨q.toArray⟩) (wr.drewN m) := fun m => hcv (wr.drewN m) hB
      clear hcv
      obtain ⟨A1, n1, c1, hv, _⟩ := h2.out.reads
      subst hv
      go_wp2
      go_quiet (fail)
      go_wp2
      go_ret2
      rw [HR.out]
      exact ⟨A1, n1, c1, rfl, (h2.drewN nq).out⟩

theorem refdecode_fresh (c : ByteArray) (w : World) (hsz : c.size ≤ 1100000) :
    Calls Tryd.prog 69 #[.string { data := #[] }, .string c] w fun e w' => ∃ A n cap, e = .returned (.tuple #[.slice A n cap, .string ⟨(U8.run c.data.toList).2.toArray⟩]) ∧ Out w w' (.slice A n cap) (U8.run c.data.toList).1 :=
  refdecode_any { data := #[] } c w (by show 0 + c.size ≤ 1100000; omega)


end Go.Proofs.YtgmgnlgolhjhmaaDoor.Big

namespace Go.Proofs.YtgmgnlgolhjhmaaDoor.Big
open Go.RowKit Go.Shelf

/-- The call that began in w0 has made, so far, the bytes vs, in the slice v. -/
def OutB (w0 w : World) (v : Value) (vs : List Int) : Prop :=
  w.ownsRow w0.heap.size 5 1 v vs.length (vs.map (Value.int .u8)) ∧ Below w0.heap.size w0 w
theorem OutB.laid (w : World) : OutB w (w.alloc (.cells #[] 5)) (.slice (some ⟨w.heap.size, 0, none⟩) 0 0) [] :=
  ⟨World.ownsRow_made w #[] 0 (Nat.le_refl _) (Nat.zero_le _) rfl, (Below.refl _ _).alloc (Nat.le_refl _) _⟩
theorem wpList_bytes {ops : Array Oper} {rest : List Oper} {o : Oper} {a : Act} {Q : Exit → Act → World → Prop} (hgd : o.guard = none) (s x : Operand)
    (ho : o.op = .call { callee := .builtin .append, args := #[s, x], argTypes := #[104, 104] })
    (w0 w : World) (v : Value) (vs ns : List Int) (m : Nat) (cs : Array Value) (hcs : cs = (ns.map (Value.int .u8)).toArray) (hm : ns.length = m) (hs : a.eval s = v) (hx : a.eval x = .slice (some ⟨w.heap.size, 0, none⟩) m m) (hout : OutB w0 w v vs) (hl : vs.length + m ≤ 10000000)
    (h : ∀ v' w1, OutB w0 w1 v' (vs ++ ns) → wpList Tryd.prog ops Q rest (a.put o.dst v') w1) : wpList Tryd.prog ops Q (o :: rest) a (w.alloc (.cells cs 5)) := by
  subst hcs
  obtain ⟨i0, hi, hz0, hz1, hz2⟩ := info_parts Tryd.infoByte
  have hsz := hout.2.size
  refine wpList_append_own _ hgd s x 104 ho w0.heap.size 5 i0 (.int .u8 0) 1 1 Tryd.underlying104 hi hz0 hz1 hz2 rfl (by decide) v vs.length (vs.map (Value.int .u8)) hs (hout.1.alloc _) ⟨w.heap.size, 0, none⟩ m m (ns.map (Value.int .u8)) hx (by simp [hm]) ?_ ?_ ?_ ?_ ?_ ?_
  · intro j u hj
    have e : (w.alloc (.cells (ns.map (Value.int .u8)).toArray 5)).heap[w.heap.size]? = some (.cells (ns.map (Value.int .u8)).toArray 5) := heap_alloc_new w _
    have ea : (⟨w.heap.size, 0, none⟩ : Addr).add j = ⟨w.heap.size, j, none⟩ := by
      by_cases h0 : j = 0
      · subst h0; simp [Addr.add]
      · simp [Addr.add, h0]
    rw [ea]
    unfold World.cell?
    rw [e]
    simpa using hj
  · intro u hu
    simp only [List.mem_map] at hu
    obtain ⟨z, _, rfl⟩ := hu
    rfl
  · unfold maxLen; omega
  · omega
  · simp; omega
  · intro v' w1 hown hgrow _
    refine h v' w1 ⟨?_, ?_⟩
    · have e : (vs ++ ns).length = vs.length + m := by rw [List.length_append, hm]
      rw [e, List.map_append]
      exact hown
    · exact (hout.2.alloc hsz _).grown hgrow (by simp; omega) (fun k hk => (hout.1.lt k hk).1)
theorem OutB.bytes {w0 w : World} {v : Value} {l : List UInt8} (h : OutB w0 w v (l.map fun c => (c.toNat : Int))) : ∃ A n cap, v = .slice A n cap ∧ Bytes w A n l := by
  have h1 := h.1
  have e : (l.map fun c => (c.toNat : Int)).map (Value.int .u8) = cellsOfBytes l := by unfold cellsOfBytes; rw [List.map_map]; rfl
  rw [e, List.length_map] at h1
  rcases h1.2 with ⟨e, e0⟩ | ⟨g, cap, cur, e, _, hh, _, _, _, ht⟩
  · exact ⟨none, 0, 0, e, e0, fun j hj => by omega⟩
  · refine ⟨_, _, cap, e, rfl, fun j hj => ⟨g, 0, rfl, ?_⟩⟩
    have hc : cur[j]? = some (.int .u8 ((l.getD j 0).toNat : Int)) := by
      have e1 := congrArg (fun l : List Value => l[j]?) ht
      simp only [Nat.mul_one, List.getElem?_take, if_pos hj, Array.getElem?_toList, cellsOfBytes, List.getElem?_map] at e1
      rw [e1, List.getElem?_eq_getElem (by omega), List.getD_eq_getElem?_getD, List.getElem?_eq_getElem (by omega)]
      rfl
    rw [Nat.zero_add]
    simp [World.cell?, hh, hc]

/-- The bytes of the first k numbers, as numbers. -/
def encAt (xs : List Int) (k : Nat) : List Int := (U8.encL (xs.take k)).map fun c => (c.toNat : Int)
theorem encAt_succ (xs : List Int) (k : Nat) (h : k < xs.length) : encAt xs (k + 1) = encAt xs k ++ (U8.enc1 (xs.getD k 0)).map fun c => (c.toNat : Int) := by
  unfold encAt
  rw [List.take_succ_eq_append_getElem h]
  have e : U8.encL (xs.take k ++ [xs[k]]) = U8.encL (xs.take k) ++ U8.enc1 xs[k] := by unfold U8.encL; rw [List.flatMap_append, List.flatMap_cons, List.flatMap_nil, List.append_nil]
  rw [e, List.map_append]
  simp [h]
theorem enc1_len (r : Int) : (U8.enc1 r).length ≤ 4 := by
  obtain ⟨c, _, _, _, e⟩ := U8.enc_forms r
  rw [e]
  repeat' split
  all_goals simp
theorem encAt_len (xs : List Int) : ∀ k, (encAt xs k).length ≤ 4 * k := by
  intro k
  induction k with
  | zero => simp [encAt, U8.encL]
  | succ k ih =>
    by_cases h : k < xs.length
    · rw [encAt_succ xs k h]
      have := enc1_len (xs.getD k 0)
      simp at this ⊢
      omega
    · have e : encAt xs (k + 1) = encAt xs k := by
        unfold encAt
        rw [List.take_of_length_le (by omega), List.take_of_length_le (by omega)]
      rw [e]; omega

/-- The numbers of the bytes of one number, by the number that stands for it. -/
theorem enc_nums (r : Int) : (U8.enc1 r).map (fun c => (c.toNat : Int)) =
    if U8.fix r < 128 then [U8.fix r] else if U8.fix r < 2048 then [192 + U8.fix r / 64, 128 + U8.fix r % 64]
      else if U8.fix r < 65536 then [224 + U8.fix r / 4096, 128 + U8.fix r / 64 % 64, 128 + U8.fix r % 64]
      else [240 + U8.fix r / 262144, 128 + U8.fix r / 4096 % 64, 128 + U8.fix r / 64 % 64, 128 + U8.fix r % 64] := by
  obtain ⟨c, hc, h1, _, e⟩ := U8.enc_forms r
  rw [e, ← hc]
  clear e hc
  by_cases g1 : c < 128
  · rw [if_pos g1, if_pos (show (c : Int) < 128 by omega)]
    simp only [List.map_cons, List.map_nil]
    rw [U8.toNat_of c (by omega)]
  · rw [if_neg g1, if_neg (show ¬ (c : Int) < 128 by omega)]
    by_cases g2 : c < 2048
    · rw [if_pos g2, if_pos (show (c : Int) < 2048 by omega)]
      simp only [List.map_cons, List.map_nil]
      rw [U8.toNat_of _ (by omega), U8.toNat_of _ (by omega)]
      rfl
    · rw [if_neg g2, if_neg (show ¬ (c : Int) < 2048 by omega)]
      by_cases g3 : c < 65536
      · rw [if_pos g3, if_pos (show (c : Int) < 65536 by omega)]
        simp only [List.map_cons, List.map_nil]
        rw [U8.toNat_of _ (by omega), U8.toNat_of _ (by omega), U8.toNat_of _ (by omega)]
        rfl
      · rw [if_neg g3, if_neg (show ¬ (c : Int) < 65536 by omega)]
        simp only [List.map_cons, List.map_nil]
        rw [U8.toNat_of _ (by omega), U8.toNat_of _ (by omega), U8.toNat_of _ (by omega), U8.toNat_of _ (by omega)]
        rfl
theorem fix_range (r : Int) : 0 ≤ U8.fix r ∧ U8.fix r ≤ 1114111 := by
  unfold U8.fix
  split
  · omega
  · omega

set_option maxHeartbeats 2000000 in
set_option maxRecDepth 100000 in
theorem refencode_any (A : Option Addr) (n c B : Nat) (xs : List Int) (w : World) (hN : Nums w B A n xs) (hB : B ≤ w.heap.size) (hn : n ≤ 1100000) (hrange : ∀ z ∈ xs, -2147483648 ≤ z ∧ z ≤ 2147483647) :
    Calls Tryd.prog 70 #[.slice A n c] w fun e w' => e = .returned (.string (runesBytes xs)) ∧ Below w.heap.size w w' := by
  have HXL := Lib.hid hN.1
  have HR := Lib.hid hrange
  clear hrange
  go_enter Tryd.func70, Tryd.ntmps70
  go_wp2
  go_loopg [3, 4] (n + 1) (fun gk v i wr => ∃ k : Nat, gk + k = n + 1 ∧ k ≤ n ∧ i = .int .i64 (k : Int) ∧ OutB w wr v (encAt xs k))
  case atStart => exact ⟨0, by omega, Nat.zero_le _, rfl, OutB.laid w⟩
  case round =>
    obtain ⟨k, hg, hkn, rfl, hout⟩ := hrel
    by_cases hlt : k < n
    · obtain ⟨g', rfl⟩ : ∃ g', gk = g' + 1 := ⟨gk - 1, by omega⟩
      have hz : (k : Int) < (n : Int) := by omega
      have hkx : k < xs.length := by rw [HXL.out]; exact hlt
      obtain ⟨b, off, rfl, hb, hc⟩ := hN.2 k hlt
      have hcell : wr.cell? ⟨b, off + k, none⟩ = some (.int .i32 (xs.getD k 0)) := (hout.2.cell (p := ⟨b, off + k, none⟩) (Nat.lt_of_lt_of_le hb hB)).trans hc
      have hrz : -2147483648 ≤ xs.getD k 0 ∧ xs.getD k 0 ≤ 2147483647 := HR.out _ (by simp [hkx])
      have htf := encAt_succ xs k hkx
      have hol : (encAt xs k).length ≤ 4400000 := by have := encAt_len xs k; omega
      have hnum := enc_nums (xs.getD k 0)
      have hfr := fix_range (xs.getD k 0)
      rw [hnum] at htf
      have hfd : U8.fix (xs.getD k 0) = if xs.getD k 0 < 0 ∨ xs.getD k 0 > 1114111 ∨ (55296 ≤ xs.getD k 0 ∧ xs.getD k 0 ≤ 57343) then 65533 else xs.getD k 0 := rfl
      generalize U8.fix (xs.getD k 0) = y at htf hfr hfd
      generalize xs.getD k 0 = z at hcell hrz hc hfd
      have HTF := Lib.hid htf
      have HFD := Lib.hid hfd
      clear htf hc hN hnum hfd
      generalize encAt xs k = ys at hout hol HTF
      obtain ⟨G, hG⟩ : ∃ G : Bool, decide (z < 0 ∨ z > 1114111 ∨ (55296 ≤ z ∧ z ≤ 57343)) = G := ⟨_, rfl⟩
      have HG := Lib.hid hG
      clear hG
      go_upto_region 6 with fail
      go_cut [30] (fun t wx => t = .bool G ∧ wr = wx)
      case first =>
        go_wp2
        all_goals
          go_meet
          refine ⟨congrArg Value.bool ?_, rfl⟩
          rw [← HG.out, Bool.eq_iff_iff]
          simp only [decide_eq_true_eq, Bool.or_eq_true, true_iff]
          omega
      case rest =>
        obtain ⟨rfl, rfl⟩ := hcut
        go_upto_if 30 with fail
        go_cut [5] (fun t wx => t = .int .i32 y ∧ wr = wx)
        case first =>
          have e := HFD.out
          have eG := HG.out
          cases G
          · rw [if_neg (by simpa using eG)] at e
            subst e
            go_wp2
            go_meet
            exact ⟨rfl, rfl⟩
          · rw [if_pos (by simpa using eG)] at e
            subst e
            go_wp2
            go_meet
            exact ⟨rfl, rfl⟩
        case rest =>
          obtain ⟨rfl, rfl⟩ := hcut
          clear HFD HG hcell hrz
          obtain ⟨hy0, hy1⟩ := hfr
          rcases (show y < 128 ∨ (128 ≤ y ∧ y < 2048) ∨ (2048 ≤ y ∧ y < 65536) ∨ 65536 ≤ y by omega) with g | g | g | g
          · go_wp2_with (at_builtin; refine wpList_bytes rfl (.tmp 55) (.tmp 58) rfl w wr _ ys [y] 1 _ rfl rfl rfl rfl hout (by omega) ?_; intro v1 w1 hout1)
            go_roundg g'
            case measure => omega
            case rel =>
              have e := HTF.out
              rw [if_pos g] at e
              exact ⟨k + 1, by omega, by omega, by go_num, by rw [e]; exact hout1⟩
          · go_wp2_with (at_builtin; refine wpList_bytes rfl (.tmp 63) (.tmp 72) rfl w wr _ ys [192 + y / 64, 128 + y % 64] 2 _ rfl rfl rfl rfl hout (by omega) ?_; intro v1 w1 hout1)
            go_roundg g'
            case measure => omega
            case rel =>
              have e := HTF.out
              rw [if_neg (by omega), if_pos g.2] at e
              exact ⟨k + 1, by omega, by omega, by go_num, by rw [e]; exact hout1⟩
          · go_wp2_with (at_builtin; refine wpList_bytes rfl (.tmp 77) (.tmp 91) rfl w wr _ ys [224 + y / 4096, 128 + y / 64 % 64, 128 + y % 64] 3 _ rfl rfl rfl rfl hout (by omega) ?_; intro v1 w1 hout1)
            go_roundg g'
            case measure => omega
            case rel =>
              have e := HTF.out
              rw [if_neg (by omega), if_neg (by omega), if_pos g.2] at e
              exact ⟨k + 1, by omega, by omega, by go_num, by rw [e]; exact hout1⟩
          · go_wp2_with (at_builtin; refine wpList_bytes rfl (.tmp 31) (.tmp 50) rfl w wr _ ys [240 + y / 262144, 128 + y / 4096 % 64, 128 + y / 64 % 64, 128 + y % 64] 4 _ rfl rfl rfl rfl hout (by omega) ?_; intro v1 w1 hout1)
            go_roundg g'
            case measure => omega
            case rel =>
              have e := HTF.out
              rw [if_neg (by omega), if_neg (by omega), if_neg (by omega)] at e
              exact ⟨k + 1, by omega, by omega, by go_num, by rw [e]; exact hout1⟩
    · have hz : ¬ (k : Int) < (n : Int) := by omega
      have htk : xs.take k = xs := List.take_of_length_le (by rw [HXL.out]; omega)
      have hE : encAt xs k = (U8.encL xs).map fun c => (c.toNat : Int) := by unfold encAt; rw [htk]
      rw [hE] at hout
      obtain ⟨A3, n3, c3, hv3, hB3⟩ := hout.bytes
      subst hv3
      have hcv := run_bytes_string wr A3 n3 c3 (U8.encL xs) hB3
      have eE : (⟨(U8.encL xs).toArray⟩ : ByteArray) = runesBytes xs := ext_bytes (by rw [U8.bytes_encL])
      rw [eE] at hcv
      have b1 := hout.2
      clear hE htk hout eE hN hB3
      obtain ⟨E, hE⟩ : ∃ E, runesBytes xs = E := ⟨_, rfl⟩
      rw [hE] at hcv
      have HE := Lib.hid hE
      clear hE
      go_wp2
      go_ret
      exact ⟨by rw [HE.out]; rfl, b1⟩

end Go.Proofs.YtgmgnlgolhjhmaaDoor.Big

namespace Go.Proofs.YtgmgnlgolhjhmaaDoor.Big
open Go.RowKit Go.Shelf

set_option maxHeartbeats 1000000 in
set_option maxRecDepth 100000 in
theorem refvalid_any (s : ByteArray) (w : World) (hs : s.size ≤ 1100000) :
    Calls Tryd.prog 62 #[.string s] w fun e w' => e = .returned (.bool (Lib.validD s.data.toList)) ∧ Below w.heap.size w w' := by
  have hvi := U8.valid_iff s.data.toList
  have cD := refdecode_fresh s w hs
  have hrg : ∀ z ∈ (U8.run s.data.toList).1, -2147483648 ≤ z ∧ z ≤ 2147483647 := U8.run_range s.data.toList
  have hol : (U8.run s.data.toList).1.length ≤ 1100000 := Nat.le_trans (U8.run_out_le _) (by rw [← Lib.size_eq]; exact hs)
  have hbe := U8.bytes_encL (U8.run s.data.toList).1
  obtain ⟨V, hV⟩ : ∃ V, Lib.validD s.data.toList = V := ⟨_, rfl⟩
  rw [hV] at hvi ⊢
  generalize U8.run s.data.toList = r at hvi cD hrg hol hbe
  obtain ⟨o, q⟩ := r
  simp only at hvi cD hrg hol hbe
  have CD := Lib.hid cD
  have HV := Lib.hid hvi
  have HR := Lib.hid hrg
  have HB := Lib.hid hbe
  clear cD hvi hrg hbe hV
  by_cases hq : q = []
  · subst hq
    by_cases he : U8.encL o = s.data.toList
    · obtain rfl : V = true := HV.out.2 ⟨rfl, he⟩
      have hE : runesBytes o = s := ext_bytes (by rw [HB.out, he])
      have HE := Lib.hid hE
      clear hE he HV
      go_enter Tryd.func62, Tryd.ntmps62
      go_wp2_with fail
      refine CD.out.mono ?_
      rintro e w1 ⟨A1, n1, c1, rfl, hout⟩
      have g1 := hout.gives
      have z1 : n1 ≤ 1100000 := by rw [g1.length]; exact hol
      go_wp2_with fail
      refine (refencode_any A1 n1 c1 w1.heap.size o w1 g1.1 (Nat.le_refl _) z1 HR.out).mono ?_
      rintro e w2 ⟨rfl, b2⟩
      rw [HE.out]
      go_wp2
      go_ret
      exact ⟨rfl, g1.2.2.trans (b2.mono g1.2.2.size)⟩
    · obtain rfl : V = false := by
        cases V
        · rfl
        · exact absurd (HV.out.1 rfl).2 he
      obtain ⟨E, hE⟩ : ∃ E, runesBytes o = E := ⟨_, rfl⟩
      have hne : (E.toList == s.toList) = false := by
        rw [Lib.toList_data, Lib.toList_data, ← hE, HB.out]
        simpa using he
      have HE := Lib.hid hE
      clear hE he HV
      go_enter Tryd.func62, Tryd.ntmps62
      go_wp2_with fail
      refine CD.out.mono ?_
      rintro e w1 ⟨A1, n1, c1, rfl, hout⟩
      have g1 := hout.gives
      have z1 : n1 ≤ 1100000 := by rw [g1.length]; exact hol
      go_wp2_with fail
      refine (refencode_any A1 n1 c1 w1.heap.size o w1 g1.1 (Nat.le_refl _) z1 HR.out).mono ?_
      rintro e w2 ⟨rfl, b2⟩
      rw [HE.out]
      go_wp2
      go_ret
      exact ⟨rfl, g1.2.2.trans (b2.mono g1.2.2.size)⟩
  · obtain rfl : V = false := by
      cases V
      · rfl
      · exact absurd (HV.out.1 rfl).1 hq
    have hem : q.isEmpty = false := by
      cases q with
      | nil => exact absurd rfl hq
      | cons _ _ => rfl
    clear HV
    go_enter Tryd.func62, Tryd.ntmps62
    go_wp2_with fail
    refine CD.out.mono ?_
    rintro e w1 ⟨A1, n1, c1, rfl, hout⟩
    have g1 := hout.gives
    go_wp2
    go_ret
    exact ⟨rfl, g1.2.2⟩

end Go.Proofs.YtgmgnlgolhjhmaaDoor.Big

namespace Go.Proofs.YtgmgnlgolhjhmaaDoor.Big
open Go.RowKit

set_option maxHeartbeats 1000000 in
set_option maxRecDepth 100000 in
theorem refIn_any (g n c : Nat) (r : Int) (ps : List (Int × Int)) (w : World) (hn : ps.length = n) (hbig : n ≤ 1100000) (hT : Tab w g ps) :
    Calls Tryd.prog 71 #[.slice (some ⟨g, 0, none⟩) n c, .int .i32 r] w fun e w' => e = .returned (.bool (Cw.hits ps r)) ∧ w = w' := by
  go_enter Tryd.func71, Tryd.ntmps71
  go_wp2
  go_loopg [5] n (fun gg s5 wr => ∃ k : Nat, k ≤ n ∧ n - k ≤ gg ∧ s5 = .int .i64 k ∧ wr = w ∧ Aside (∀ j, j < k → Cw.hit (ps.getD j (0, 0)) r = false))
  case atStart => exact ⟨0, Nat.zero_le _, by omega, rfl, rfl, fun j hj => absurd hj (Nat.not_lt_zero _)⟩
  case round =>
    obtain ⟨k, hk, hg, rfl, rfl, A⟩ := hrel
    by_cases hkn : k < n
    · have hz : (k : Int) < (n : Int) := by omega
      have hz0 : (0 : Int) ≤ (k : Int) := by omega
      obtain ⟨c1, c2⟩ := hT.2 k (by omega)
      have HT := Lib.hid hT
      clear hT
      obtain ⟨y, hy⟩ : ∃ y, ps.getD k (0, 0) = y := ⟨_, rfl⟩
      rw [hy] at c1 c2
      have HY := Lib.hid hy
      clear hy
      obtain ⟨a, b⟩ := y
      by_cases h1 : a ≤ r
      · by_cases h2 : r ≤ b
        · go_wp2
          go_ret
          refine ⟨ret_bool ?_, rfl⟩
          rw [Cw.hits_of k (by omega) (by rw [HY.out]; simp [Cw.hit, h1, h2])]
        · go_wp2
          go_roundg (n - (k + 1))
          case measure => omega
          case rel =>
            refine ⟨k + 1, by omega, by omega, by go_num, rfl, (show Aside _ from fun j hj => ?_)⟩
            by_cases e : j = k
            · subst e
              rw [HY.out]
              simp [Cw.hit]
              omega
            · exact A.out j (by omega)
      · go_wp2
        go_roundg (n - (k + 1))
        case measure => omega
        case rel =>
          refine ⟨k + 1, by omega, by omega, by go_num, rfl, (show Aside _ from fun j hj => ?_)⟩
          by_cases e : j = k
          · subst e
            rw [HY.out]
            simp [Cw.hit]
            omega
          · exact A.out j (by omega)
    · have hz : ¬ (k : Int) < (n : Int) := by omega
      have HT := Lib.hid hT
      clear hT
      go_wp2
      go_ret
      refine ⟨ret_bool ?_, rfl⟩
      rw [Cw.hits_none (fun j hj => A.out j (by omega))]

set_option maxHeartbeats 400000 in
set_option maxRecDepth 100000 in
theorem refMark_any (r : Int) (w : World) : Calls Tryd.prog 64 #[.int .i32 r] w fun e w' => e = .returned (.bool (Cw.hits Cw.marks r)) ∧ Below w.heap.size w w' := by
  have htab := table_of (refMarks_any w)
  have hlen : Cw.marks.length = 7 := rfl
  have HL := Lib.hid hlen
  clear hlen
  generalize Cw.marks = ps at htab HL ⊢
  go_enter Tryd.func64, Tryd.ntmps64
  go_wp2_with fail
  refine htab.mono ?_
  rintro e w1 ⟨rfl, hT, hb⟩
  have hcall := refIn_any w.heap.size 7 7 r ps w1 HL.out (by decide) hT
  clear hT htab
  go_wp2_with fail
  refine hcall.mono ?_
  rintro e w2 ⟨rfl, rfl⟩
  go_wp2
  go_ret
  exact ⟨rfl, hb⟩

set_option maxHeartbeats 1000000 in
set_option maxRecDepth 100000 in
theorem refWidth_any (r : Int) (w : World) : Calls Tryd.prog 65 #[.int .i32 r] w fun e w' => e = .returned (.int .i64 (Cw.wd r)) ∧ Below w.heap.size w w' := by
  have hmark := refMark_any r w
  have hwide := fun w' : World => table_of (refWide_any w')
  have hlen : Cw.wide.length = 14 := rfl
  have HL := Lib.hid hlen
  clear hlen
  obtain ⟨z, hz⟩ : ∃ z, Cw.wd r = z := ⟨_, rfl⟩
  rw [hz]
  unfold Cw.wd at hz
  have HW := Lib.hid hz
  clear hz
  generalize Cw.marks = ms at hmark HW
  generalize Cw.wide = ps at hwide HL HW
  cases h1 : Cw.ctl r
  · have hn : ¬ (r < 32 ∨ (127 ≤ r ∧ r ≤ 159)) := by rw [← Cw.ctl_iff, h1]; simp
    rw [h1] at HW
    cases h2 : Cw.hits ms r
    · rw [h2] at hmark HW
      cases h3 : Cw.hits ps r
      all_goals
        rw [h3] at HW
        clear h1 h2
        have a1 : ¬ r < 32 := by omega
        by_cases a2 : 127 ≤ r
        all_goals
          have a3 : 127 ≤ r → ¬ r ≤ 159 := by omega
          try have a4 := a3 a2
          clear hn a3
          go_enter Tryd.func65, Tryd.ntmps65
          go_wp2_with fail
          refine hmark.mono ?_
          rintro e w1 ⟨rfl, hb1⟩
          go_wp2_with fail
          refine (hwide w1).mono ?_
          rintro e w2 ⟨rfl, hT, hb2⟩
          have hcall := refIn_any w1.heap.size 14 14 r ps w2 HL.out (by decide) hT
          rw [h3] at hcall
          clear hT
          go_wp2_with fail
          refine hcall.mono ?_
          rintro e w3 ⟨rfl, rfl⟩
          go_wp2
          go_ret
          exact ⟨ret_int (by have := HW.out; simpa using this), hb1.trans (hb2.mono hb1.size)⟩
    · rw [h2] at hmark HW
      clear h1 h2 hwide
      have a1 : ¬ r < 32 := by omega
      by_cases a2 : 127 ≤ r
      all_goals
        have a3 : 127 ≤ r → ¬ r ≤ 159 := by omega
        try have a4 := a3 a2
        clear hn a3
        go_enter Tryd.func65, Tryd.ntmps65
        go_wp2_with fail
        refine hmark.mono ?_
        rintro e w1 ⟨rfl, hb1⟩
        go_wp2
        go_ret
        exact ⟨ret_int (by have := HW.out; simpa using this), hb1⟩
  · have hn := (Cw.ctl_iff r).1 h1
    rw [h1] at HW
    clear h1 hmark hwide
    by_cases a1 : r < 32
    · clear hn
      go_enter Tryd.func65, Tryd.ntmps65
      go_wp2
      go_ret
      exact ⟨ret_int (by have := HW.out; simpa using this), Below.refl _ _⟩
    · have a2 : 127 ≤ r := by omega
      have a3 : r ≤ 159 := by omega
      clear hn
      go_enter Tryd.func65, Tryd.ntmps65
      go_wp2
      go_ret
      exact ⟨ret_int (by have := HW.out; simpa using this), Below.refl _ _⟩

end Go.Proofs.YtgmgnlgolhjhmaaDoor.Big

namespace Go.Proofs.YtgmgnlgolhjhmaaDoor.Big
open Go.RowKit Go.Shelf

theorem refMark_cl (r : Int) (w : World) : Calls Tryd.prog 64 #[.int .i32 r] w fun e w' => e = .returned (.bool (Cl.isMark r)) ∧ Below w.heap.size w w' := refMark_any r w

set_option maxHeartbeats 400000 in
set_option maxRecDepth 100000 in
theorem refchars_any (s : ByteArray) (w : World) (hs : s.size ≤ 1048576) :
    Calls Tryd.prog 63 #[.string s] w fun e w' => ∃ A n cap, e = .returned (.slice A n cap) ∧ Gives w w' A n cap (U8.run s.data.toList).1 := by
  have cD := Lib.hid (refdecode_fresh s w (by omega))
  go_enter Tryd.func63, Tryd.ntmps63
  go_wp2_with fail
  refine cD.out.mono ?_
  rintro e w1 ⟨A, n, cap, rfl, hout⟩
  have HG := Lib.hid hout.gives
  clear hout
  go_wp2
  go_ret
  exact ⟨A, n, cap, rfl, HG.out⟩

set_option maxHeartbeats 2000000 in
set_option maxRecDepth 100000 in
theorem refcheck_any (s : ByteArray) (w : World) (hs : s.size ≤ 1048576) :
    Calls Tryd.prog 53 #[.string s] w fun e w' => e = .returned (.int .i64 (Cl.chk s.data.toList : Nat)) ∧ Below w.heap.size w w' := by
  by_cases h0 : s.data.toList = []
  · obtain rfl : s = ⟨#[]⟩ := ext_bytes h0
    clear h0
    go_enter Tryd.func53, Tryd.ntmps53
    go_wp2
    go_ret
    exact ⟨ret_int (by rw [Cl.chk_bad (.inl rfl)]; rfl), Below.refl _ _⟩
  · have hem : s.toList.isEmpty = false := by
      rw [Lib.toList_data]
      cases h : s.data.toList with
      | nil => exact absurd h h0
      | cons _ _ => rfl
    have cV := refvalid_any s w (by omega)
    cases hV : Lib.validD s.data.toList
    · rw [hV] at cV
      have HB := Lib.hid (Cl.chk_bad (.inr hV))
      have CV := Lib.hid cV
      clear cV hV h0
      go_enter Tryd.func53, Tryd.ntmps53
      go_wp2_with fail
      refine CV.out.mono ?_
      rintro e w1 ⟨rfl, b1⟩
      go_wp2
      go_ret
      exact ⟨ret_int (by rw [HB.out]; rfl), b1⟩
    · rw [hV] at cV
      have CV := Lib.hid cV
      have cC := fun W => refchars_any s W (by omega)
      obtain ⟨xs, hxs⟩ : ∃ xs, (U8.run s.data.toList).1 = xs := ⟨_, rfl⟩
      have hxl : xs.length ≤ 1048576 := by rw [← hxs]; exact Nat.le_trans (U8.run_out_le _) (by rw [← Lib.size_eq]; omega)
      rw [hxs] at cC
      obtain ⟨b, ms, rfl⟩ : ∃ b ms, xs = b :: ms := by
        cases xs with
        | nil =>
          obtain ⟨_, hq⟩ := (U8.valid_iff s.data.toList).1 hV
          rw [hxs] at hq
          exact absurd hq.symm h0
        | cons b ms => exact ⟨b, ms, rfl⟩
      have hchk := Cl.chk_valid (l := s.data.toList) (b := b) (ms := ms) (by rw [hV]; simp [h0]) hxs
      generalize Cl.chk s.data.toList = ck at hchk ⊢
      have HC := Lib.hid hchk
      have CC := Lib.hid cC
      clear hchk hV hxs cV cC h0
      go_enter Tryd.func53, Tryd.ntmps53
      go_wp2_with fail
      refine CV.out.mono ?_
      rintro e w1 ⟨rfl, b1⟩
      go_wp2_with fail
      refine (CC.out w1).mono ?_
      rintro e w2 ⟨A, n, cap, rfl, hg⟩
      have hlen := hg.length
      have hm := hg.1
      have b2 : Below w.heap.size w w2 := b1.trans (hg.2.2.mono b1.size)
      have hn1 : 1 ≤ n := by rw [hlen]; simp
      have hnl : n ≤ 1048576 := by omega
      have HLen := Lib.hid hlen
      obtain ⟨bb, off, rfl, hbb, hc0⟩ := hm.2 0 (by omega)
      simp only [Nat.add_zero, List.getD_cons_zero] at hc0
      have hz0 : (0 : Int) < (n : Int) := by omega
      clear hg hlen
      have HM := Lib.hid hm
      clear hm
      cases hbs : Cl.isBase b
      · have HK : Hid (ck = 9) := Lib.hid (by rw [HC.out, if_pos (.inl hbs)])
        cases hmk : Cl.isMark b
        · have hw := Cl.other_ctl hmk hbs
          have cM := refMark_cl b w2
          rw [hmk] at cM
          have cW := fun W => refWidth_any b W
          rw [hw] at cW
          clear hbs hmk hw
          go_wp2_with fail
          refine cM.mono ?_
          rintro e w3 ⟨rfl, b3⟩
          have hc3 := (b3.cell (p := ⟨bb, off, none⟩) hbb).trans hc0
          go_wp2_with fail
          refine (cW w3).mono ?_
          rintro e w4 ⟨rfl, b4⟩
          go_wp2
          go_ret
          have b5 := b2.trans (b3.mono b2.size)
          exact ⟨ret_int (by rw [HK.out]; rfl), b5.trans (b4.mono b5.size)⟩
        · have cM := refMark_cl b w2
          rw [hmk] at cM
          clear hbs hmk
          go_wp2_with fail
          refine cM.mono ?_
          rintro e w3 ⟨rfl, b3⟩
          go_wp2
          go_ret
          exact ⟨ret_int (by rw [HK.out]; rfl), b2.trans (b3.mono b2.size)⟩
      · have hmk := Cl.base_not_mark hbs
        have cM := refMark_cl b w2
        rw [hmk] at cM
        have hw : 0 < Cw.wd b := by unfold Cl.isBase at hbs; simpa using hbs
        have cW := fun W => refWidth_any b W
        obtain ⟨wz, hwz⟩ : ∃ wz, Cw.wd b = wz := ⟨_, rfl⟩
        rw [hwz] at cW hw
        have hw1 : ¬ wz < 1 := by omega
        have HBS := Lib.hid hbs
        clear hbs hmk hwz
        go_wp2_with fail
        refine cM.mono ?_
        rintro e w3 ⟨rfl, b3⟩
        have hc3 := (b3.cell (p := ⟨bb, off, none⟩) hbb).trans hc0
        go_wp2_with fail
        refine (cW w3).mono ?_
        rintro e w4 ⟨rfl, b4⟩
        have b5 : Below w2.heap.size w2 w4 := b3.trans (b4.mono b3.size)
        clear hc3 hc0 b3 b4 cM cW
        have b6 : Hid (Below w.heap.size w w2) := Lib.hid b2
        have B5 := Lib.hid b5
        clear b2 b5
        go_wp2
        go_loopg [4] n (fun gg s4 wr => ∃ k : Nat, 1 ≤ k ∧ k ≤ n ∧ n - k ≤ gg ∧ s4 = .int .i64 k ∧ Aside (Below w2.heap.size w2 wr) ∧ Aside (∀ j, 1 ≤ j → j < k → Cl.isMark ((b :: ms).getD j 0) = true))
        case atStart => exact ⟨1, by omega, hn1, by omega, rfl, B5.out, fun j h1 h2 => by omega⟩
        case round =>
          obtain ⟨k, hk1, hk, hgg, rfl, BW, A'⟩ := hrel
          by_cases hkn : k < n
          · have hz : (k : Int) < (n : Int) := by omega
            have hz0 : (0 : Int) ≤ (k : Int) := by omega
            obtain ⟨b', off', e', hb', hc⟩ := HM.out.2 k hkn
            injection e' with e'
            injection e' with e1 e2
            subst e1 e2
            have hc1 := (BW.out.cell (p := ⟨bb, off + k, none⟩) hbb).trans hc
            have hsz := BW.out.size
            have hcall := refMark_cl ((b :: ms).getD k 0) wr
            clear hc
            obtain ⟨y, hy⟩ : ∃ y, (b :: ms).getD k 0 = y := ⟨_, rfl⟩
            rw [hy] at hc1 hcall
            have HY := Lib.hid hy
            clear hy
            cases hq : Cl.isMark y with
            | false =>
              rw [hq] at hcall
              have HQ := Lib.hid hq
              clear hq
              go_wp2_with (go_at_call 64; refine hcall.mono ?_; rintro e w' ⟨rfl, hb'⟩)
              go_ret
              have hf : ms.all Cl.isMark = false := by
                rw [List.all_eq_false]
                obtain ⟨j, rfl⟩ : ∃ j, k = j + 1 := ⟨k - 1, by omega⟩
                have hjm : j < ms.length := by have := HLen.out; simp at this; omega
                refine ⟨ms[j], List.getElem_mem hjm, ?_⟩
                have e : ms[j] = y := by rw [← HY.out]; simp [hjm]
                rw [e, HQ.out]
                simp
              have b7 := b6.out
              have b8 := b7.trans (BW.out.mono b7.size)
              exact ⟨ret_int (by rw [HC.out, if_pos (.inr hf)]; rfl), b8.trans (hb'.mono b8.size)⟩
            | true =>
              rw [hq] at hcall
              have HQ := Lib.hid hq
              clear hq
              go_wp2_with (go_at_call 64; refine hcall.mono ?_; rintro e w' ⟨rfl, hb'⟩)
              go_roundg (n - (k + 1))
              case measure => omega
              case rel =>
                refine ⟨k + 1, by omega, by omega, by omega, by go_num, BW.out.trans (hb'.mono hsz), (show Aside _ from fun j h1 h2 => ?_)⟩
                by_cases e : j = k
                · subst e
                  rw [HY.out]; exact HQ.out
                · exact A'.out j h1 (by omega)
          · have hz : ¬ (k : Int) < (n : Int) := by omega
            have hf : ms.all Cl.isMark = true := by
              rw [List.all_eq_true]
              intro z hz'
              obtain ⟨j, hj, rfl⟩ := List.mem_iff_getElem.1 hz'
              have hl2 := HLen.out
              simp at hl2
              have := A'.out (j + 1) (by omega) (by omega)
              simpa [hj] using this
            have HF := Lib.hid hf
            clear hf
            have hl2 : n = ms.length + 1 := by have := HLen.out; simpa using this
            have b7 := b6.out
            have b8 := b7.trans (BW.out.mono b7.size)
            by_cases h3 : 3 < ms.length
            · have h4 : (4 : Int) < (n : Int) := by omega
              go_wp2
              go_ret
              exact ⟨ret_int (by rw [HC.out, if_neg (by rw [HBS.out, HF.out]; simp), if_pos h3]; rfl), b8⟩
            · have h4 : ¬ (4 : Int) < (n : Int) := by omega
              go_wp2
              go_ret
              exact ⟨ret_int (by rw [HC.out, if_neg (by rw [HBS.out, HF.out]; simp), if_neg h3]; rfl), b8⟩

end Go.Proofs.YtgmgnlgolhjhmaaDoor.Big

namespace Go.Proofs.YtgmgnlgolhjhmaaDoor.Big
open Go.RowKit Go.Shelf

theorem nat_ne' {k : Nat} (h : k ≠ 0) : (((k : Nat) : Int) != 0) = true := by simp; omega

set_option maxHeartbeats 400000 in
set_option maxRecDepth 100000 in
theorem refwidth_cl (s : ByteArray) (w : World) (hs : s.size ≤ 1048576) :
    Calls Tryd.prog 54 #[.string s] w fun e w' => e = .returned (.int .i64 (Cl.widthC s.data.toList)) ∧ Below w.heap.size w w' := by
  have cC := Lib.hid (refcheck_any s w hs)
  have cL := Lib.hid (fun W => refchars_any s W hs)
  have HP := Lib.hid (fun h => Cl.parts_whole (l := s.data.toList) h)
  have HW : Hid (Cl.widthC s.data.toList = if Cl.chk s.data.toList = 0 then Cw.wd (Cl.baseOf s.data.toList) else 0) := Lib.hid rfl
  generalize Cl.widthC s.data.toList = z at HW ⊢
  generalize Cl.baseOf s.data.toList = b at HW HP
  generalize Cl.marksOf s.data.toList = ms at HP
  generalize (U8.run s.data.toList).1 = xs at HP cL
  generalize Cl.chk s.data.toList = k at HW cC HP
  by_cases hk : k = 0
  · subst hk
    have hxs := HP.out rfl
    subst hxs
    go_enter Tryd.func54, Tryd.ntmps54
    go_wp2_with fail
    refine cC.out.mono ?_
    rintro e w1 ⟨rfl, b1⟩
    go_wp2_with fail
    refine (cL.out w1).mono ?_
    rintro e w2 ⟨A, n, cap, rfl, hg⟩
    have b2 := b1.trans (hg.2.2.mono b1.size)
    have hlen := hg.length
    have hn1 : 1 ≤ n := by rw [hlen]; simp
    obtain ⟨bb, off, rfl, hbb, hc0⟩ := hg.1.2 0 (by omega)
    simp only [Nat.add_zero, List.getD_cons_zero] at hc0
    have hz0 : (0 : Int) < (n : Int) := by omega
    clear hg hlen b1
    go_wp2_with fail
    refine (refWidth_any b w2).mono ?_
    rintro e w3 ⟨rfl, b3⟩
    go_wp2
    go_ret
    exact ⟨ret_int (by rw [HW.out]; simp), b2.trans (b3.mono b2.size)⟩
  · have hne := nat_ne' hk
    go_enter Tryd.func54, Tryd.ntmps54
    go_wp2_with fail
    refine cC.out.mono ?_
    rintro e w1 ⟨rfl, b1⟩
    go_wp2
    go_ret
    exact ⟨ret_int (by rw [HW.out, if_neg hk]), b1⟩

end Go.Proofs.YtgmgnlgolhjhmaaDoor.Big
