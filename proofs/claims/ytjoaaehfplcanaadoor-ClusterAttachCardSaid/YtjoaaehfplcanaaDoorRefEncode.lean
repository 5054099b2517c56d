/-
  What the document's own Encode returns, for every list of at most 1000 numbers: the bytes of Go's own encoding.
-/
import Derived.Test.YtjoaaehfplcanaaDoorEncWalk
import Derived.Test.YtjoaaehfplcanaaDoorRefDecode
namespace Go.Proofs.YtjoaaehfplcanaaDoor
open Go.RowKit Go.Shelf

/-- The call that began in w0 has made, so far, the bytes vs, in the slice v. -/
def OutB (w0 w : World) (v : Value) (vs : List Int) : Prop :=
  w.ownsRow w0.heap.size 5 1 v vs.length (vs.map (Value.int .u8)) ∧ Below w0.heap.size w0 w
theorem OutB.laid (w : World) : OutB w (w.alloc (.cells #[] 5)) (.slice (some ⟨w.heap.size, 0, none⟩) 0 0) [] :=
  ⟨World.ownsRow_made w #[] 0 (Nat.le_refl _) (Nat.zero_le _) rfl, (Below.refl _ _).alloc (Nat.le_refl _) _⟩
theorem wpList_bytes {ops : Array Oper} {rest : List Oper} {o : Oper} {a : Act} {Q : Exit → Act → World → Prop} (hgd : o.guard = none) (s x : Operand)
    (ho : o.op = .call { callee := .builtin .append, args := #[s, x], argTypes := #[60, 60] })
    (w0 w : World) (v : Value) (vs ns : List Int) (m : Nat) (cs : Array Value) (hcs : cs = (ns.map (Value.int .u8)).toArray) (hm : ns.length = m) (hs : a.eval s = v) (hx : a.eval x = .slice (some ⟨w.heap.size, 0, none⟩) m m) (hout : OutB w0 w v vs) (hl : vs.length + m ≤ 100000)
    (h : ∀ v' w1, OutB w0 w1 v' (vs ++ ns) → wpList Tryd.prog ops Q rest (a.put o.dst v') w1) : wpList Tryd.prog ops Q (o :: rest) a (w.alloc (.cells cs 5)) := by
  subst hcs
  obtain ⟨i0, hi, hz0, hz1, hz2⟩ := info_parts Tryd.infoByte
  have hsz := hout.2.size
  refine wpList_append_own _ hgd s x 60 ho w0.heap.size 5 i0 (.int .u8 0) 1 1 Tryd.underlying60 hi hz0 hz1 hz2 rfl (by decide) v vs.length (vs.map (Value.int .u8)) hs (hout.1.alloc _) ⟨w.heap.size, 0, none⟩ m m (ns.map (Value.int .u8)) hx (by simp [hm]) ?_ ?_ ?_ ?_ ?_ ?_
  · intro j u hj
    have e : (w.alloc (.cells (ns.map (Value.int .u8)).toArray 5)).heap[w.heap.size]? = some (.cells (ns.map (Value.int .u8)).toArray 5) := heap_alloc_new w _
    have ea : (⟨w.heap.size, 0, none⟩ : Addr).add j = ⟨w.heap.size, j, none⟩ := by
      by_cases h0 : j = 0
      · subst h0; simp [Addr.add]
      · simp [Addr.add, h0]
    rw [ea]
    unfold World.cell?
    rw [e]
    simpa using hj
  · intro u hu
    simp only [List.mem_map] at hu
    obtain ⟨z, _, rfl⟩ := hu
    rfl
  · unfold maxLen; omega
  · omega
  · simp; omega
  · intro v' w1 hown hgrow _
    refine h v' w1 ⟨?_, ?_⟩
    · have e : (vs ++ ns).length = vs.length + m := by rw [List.length_append, hm]
      rw [e, List.map_append]
      exact hown
    · exact (hout.2.alloc hsz _).grown hgrow (by simp; omega) (fun k hk => (hout.1.lt k hk).1)
theorem OutB.bytes {w0 w : World} {v : Value} {l : List UInt8} (h : OutB w0 w v (l.map fun c => (c.toNat : Int))) : ∃ A n cap, v = .slice A n cap ∧ Bytes w A n l := by
  have h1 := h.1
  have e : (l.map fun c => (c.toNat : Int)).map (Value.int .u8) = cellsOfBytes l := by unfold cellsOfBytes; rw [List.map_map]; rfl
  rw [e, List.length_map] at h1
  rcases h1.2 with ⟨e, e0⟩ | ⟨g, cap, cur, e, _, hh, _, _, _, ht⟩
  · exact ⟨none, 0, 0, e, e0, fun j hj => by omega⟩
  · refine ⟨_, _, cap, e, rfl, fun j hj => ⟨g, 0, rfl, ?_⟩⟩
    have hc : cur[j]? = some (.int .u8 ((l.getD j 0).toNat : Int)) := by
      have e1 := congrArg (fun l : List Value => l[j]?) ht
      simp only [Nat.mul_one, List.getElem?_take, if_pos hj, Array.getElem?_toList, cellsOfBytes, List.getElem?_map] at e1
      rw [e1, List.getElem?_eq_getElem (by omega), List.getD_eq_getElem?_getD, List.getElem?_eq_getElem (by omega)]
      rfl
    rw [Nat.zero_add]
    simp [World.cell?, hh, hc]

/-- The bytes of the first k numbers, as numbers. -/
def encAt (xs : List Int) (k : Nat) : List Int := (U8.encL (xs.take k)).map fun c => (c.toNat : Int)
theorem encAt_succ (xs : List Int) (k : Nat) (h : k < xs.length) : encAt xs (k + 1) = encAt xs k ++ (U8.enc1 (xs.getD k 0)).map fun c => (c.toNat : Int) := by
  unfold encAt
  rw [List.take_succ_eq_append_getElem h]
  have e : U8.encL (xs.take k ++ [xs[k]]) = U8.encL (xs.take k) ++ U8.enc1 xs[k] := by unfold U8.encL; rw [List.flatMap_append, List.flatMap_cons, List.flatMap_nil, List.append_nil]
  rw [e, List.map_append]
  simp [h]
theorem enc1_len (r : Int) : (U8.enc1 r).length ≤ 4 := by
  obtain ⟨c, _, _, _, e⟩ := U8.enc_forms r
  rw [e]
  repeat' split
  all_goals simp
theorem encAt_len (xs : List Int) : ∀ k, (encAt xs k).length ≤ 4 * k := by
  intro k
  induction k with
  | zero => simp [encAt, U8.encL]
  | succ k ih =>
    by_cases h : k < xs.length
    · rw [encAt_succ xs k h]
      have := enc1_len (xs.getD k 0)
      simp at this ⊢
      omega
    · have e : encAt xs (k + 1) = encAt xs k := by
        unfold encAt
        rw [List.take_of_length_le (by omega), List.take_of_length_le (by omega)]
      rw [e]; omega

/-- The numbers of the bytes of one number, by the number that stands for it. -/
theorem enc_nums (r : Int) : (U8.enc1 r).map (fun c => (c.toNat : Int)) =
    if U8.fix r < 128 then [U8.fix r] else if U8.fix r < 2048 then [192 + U8.fix r / 64, 128 + U8.fix r % 64]
      else if U8.fix r < 65536 then [224 + U8.fix r / 4096, 128 + U8.fix r / 64 % 64, 128 + U8.fix r % 64]
      else [240 + U8.fix r / 262144, 128 + U8.fix r / 4096 % 64, 128 + U8.fix r / 64 % 64, 128 + U8.fix r % 64] := by
  obtain ⟨c, hc, h1, _, e⟩ := U8.enc_forms r
  rw [e, ← hc]
  clear e hc
  by_cases g1 : c < 128
  · rw [if_pos g1, if_pos (show (c : Int) < 128 by omega)]
    simp only [List.map_cons, List.map_nil]
    rw [U8.toNat_of c (by omega)]
  · rw [if_neg g1, if_neg (show ¬ (c : Int) < 128 by omega)]
    by_cases g2 : c < 2048
    · rw [if_pos g2, if_pos (show (c : Int) < 2048 by omega)]
      simp only [List.map_cons, List.map_nil]
      rw [U8.toNat_of _ (by omega), U8.toNat_of _ (by omega)]
      rfl
    · rw [if_neg g2, if_neg (show ¬ (c : Int) < 2048 by omega)]
      by_cases g3 : c < 65536
      · rw [if_pos g3, if_pos (show (c : Int) < 65536 by omega)]
        simp only [List.map_cons, List.map_nil]
        rw [U8.toNat_of _ (by omega), U8.toNat_of _ (by omega), U8.toNat_of _ (by omega)]
        rfl
      · rw [if_neg g3, if_neg (show ¬ (c : Int) < 65536 by omega)]
        simp only [List.map_cons, List.map_nil]
        rw [U8.toNat_of _ (by omega), U8.toNat_of _ (by omega), U8.toNat_of _ (by omega), U8.toNat_of _ (by omega)]
        rfl
theorem fix_range (r : Int) : 0 ≤ U8.fix r ∧ U8.fix r ≤ 1114111 := by
  unfold U8.fix
  split
  · omega
  · omega

set_option maxHeartbeats 2000000 in
set_option maxRecDepth 100000 in
theorem refencode_any (A : Option Addr) (n c B : Nat) (xs : List Int) (w : World) (hN : Nums w B A n xs) (hB : B ≤ w.heap.size) (hn : n ≤ 1000) (hrange : ∀ z ∈ xs, -2147483648 ≤ z ∧ z ≤ 2147483647) :
    Calls Tryd.prog 50 #[.slice A n c] w fun e w' => e = .returned (.string (runesBytes xs)) ∧ Below w.heap.size w w' := by
  have HXL := Lib.hid hN.1
  have HR := Lib.hid hrange
  clear hrange
  go_enter Tryd.func50, Tryd.ntmps50
  go_wp2
  go_loopg [3, 4] (n + 1) (fun gk v i wr => ∃ k : Nat, gk + k = n + 1 ∧ k ≤ n ∧ i = .int .i64 (k : Int) ∧ OutB w wr v (encAt xs k))
  case atStart => exact ⟨0, by omega, Nat.zero_le _, rfl, OutB.laid w⟩
  case round =>
    obtain ⟨k, hg, hkn, rfl, hout⟩ := hrel
    by_cases hlt : k < n
    · obtain ⟨g', rfl⟩ : ∃ g', gk = g' + 1 := ⟨gk - 1, by omega⟩
      have hz : (k : Int) < (n : Int) := by omega
      have hkx : k < xs.length := by rw [HXL.out]; exact hlt
      obtain ⟨b, off, rfl, hb, hc⟩ := hN.2 k hlt
      have hcell : wr.cell? ⟨b, off + k, none⟩ = some (.int .i32 (xs.getD k 0)) := (hout.2.cell (p := ⟨b, off + k, none⟩) (Nat.lt_of_lt_of_le hb hB)).trans hc
      have hrz : -2147483648 ≤ xs.getD k 0 ∧ xs.getD k 0 ≤ 2147483647 := HR.out _ (by simp [hkx])
      have htf := encAt_succ xs k hkx
      have hol : (encAt xs k).length ≤ 4000 := by have := encAt_len xs k; omega
      have hnum := enc_nums (xs.getD k 0)
      have hfr := fix_range (xs.getD k 0)
      rw [hnum] at htf
      have hfd : U8.fix (xs.getD k 0) = if xs.getD k 0 < 0 ∨ xs.getD k 0 > 1114111 ∨ (55296 ≤ xs.getD k 0 ∧ xs.getD k 0 ≤ 57343) then 65533 else xs.getD k 0 := rfl
      generalize U8.fix (xs.getD k 0) = y at htf hfr hfd
      generalize xs.getD k 0 = z at hcell hrz hc hfd
      have HTF := Lib.hid htf
      have HFD := Lib.hid hfd
      clear htf hc hN hnum hfd
      generalize encAt xs k = ys at hout hol HTF
      obtain ⟨G, hG⟩ : ∃ G : Bool, decide (z < 0 ∨ z > 1114111 ∨ (55296 ≤ z ∧ z ≤ 57343)) = G := ⟨_, rfl⟩
      have HG := Lib.hid hG
      clear hG
      go_upto_region 6 with fail
      go_cut [30] (fun t wx => t = .bool G ∧ wr = wx)
      case first =>
        go_wp2
        all_goals
          go_meet
          refine ⟨congrArg Value.bool ?_, rfl⟩
          rw [← HG.out, Bool.eq_iff_iff]
          simp only [decide_eq_true_eq, Bool.or_eq_true, true_iff]
          omega
      case rest =>
        obtain ⟨rfl, rfl⟩ := hcut
        go_upto_if 30 with fail
        go_cut [5] (fun t wx => t = .int .i32 y ∧ wr = wx)
        case first =>
          have e := HFD.out
          have eG := HG.out
          cases G
          · rw [if_neg (by simpa using eG)] at e
            subst e
            go_wp2
            go_meet
            exact ⟨rfl, rfl⟩
          · rw [if_pos (by simpa using eG)] at e
            subst e
            go_wp2
            go_meet
            exact ⟨rfl, rfl⟩
        case rest =>
          obtain ⟨rfl, rfl⟩ := hcut
          clear HFD HG hcell hrz
          obtain ⟨hy0, hy1⟩ := hfr
          rcases (show y < 128 ∨ (128 ≤ y ∧ y < 2048) ∨ (2048 ≤ y ∧ y < 65536) ∨ 65536 ≤ y by omega) with g | g | g | g
          · go_wp2_with (at_builtin; refine wpList_bytes rfl (.tmp 55) (.tmp 58) rfl w wr _ ys [y] 1 _ rfl rfl rfl rfl hout (by omega) ?_; intro v1 w1 hout1)
            go_roundg g'
            case measure => omega
            case rel =>
              have e := HTF.out
              rw [if_pos g] at e
              exact ⟨k + 1, by omega, by omega, by go_num, by rw [e]; exact hout1⟩
          · go_wp2_with (at_builtin; refine wpList_bytes rfl (.tmp 63) (.tmp 72) rfl w wr _ ys [192 + y / 64, 128 + y % 64] 2 _ rfl rfl rfl rfl hout (by omega) ?_; intro v1 w1 hout1)
            go_roundg g'
            case measure => omega
            case rel =>
              have e := HTF.out
              rw [if_neg (by omega), if_pos g.2] at e
              exact ⟨k + 1, by omega, by omega, by go_num, by rw [e]; exact hout1⟩
          · go_wp2_with (at_builtin; refine wpList_bytes rfl (.tmp 77) (.tmp 91) rfl w wr _ ys [224 + y / 4096, 128 + y / 64 % 64, 128 + y % 64] 3 _ rfl rfl rfl rfl hout (by omega) ?_; intro v1 w1 hout1)
            go_roundg g'
            case measure => omega
            case rel =>
              have e := HTF.out
              rw [if_neg (by omega), if_neg (by omega), if_pos g.2] at e
              exact ⟨k + 1, by omega, by omega, by go_num, by rw [e]; exact hout1⟩
          · go_wp2_with (at_builtin; refine wpList_bytes rfl (.tmp 31) (.tmp 50) rfl w wr _ ys [240 + y / 262144, 128 + y / 4096 % 64, 128 + y / 64 % 64, 128 + y % 64] 4 _ rfl rfl rfl rfl hout (by omega) ?_; intro v1 w1 hout1)
            go_roundg g'
            case measure => omega
            case rel =>
              have e := HTF.out
              rw [if_neg (by omega), if_neg (by omega), if_neg (by omega)] at e
              exact ⟨k + 1, by omega, by omega, by go_num, by rw [e]; exact hout1⟩
    · have hz : ¬ (k : Int) < (n : Int) := by omega
      have htk : xs.take k = xs := List.take_of_length_le (by rw [HXL.out]; omega)
      have hE : encAt xs k = (U8.encL xs).map fun c => (c.toNat : Int) := by unfold encAt; rw [htk]
      rw [hE] at hout
      obtain ⟨A3, n3, c3, hv3, hB3⟩ := hout.bytes
      subst hv3
      have hcv := run_bytes_string wr A3 n3 c3 (U8.encL xs) hB3
      have eE : (⟨(U8.encL xs).toArray⟩ : ByteArray) = runesBytes xs := ext_bytes (by rw [U8.bytes_encL])
      rw [eE] at hcv
      have b1 := hout.2
      clear hE htk hout eE hN hB3
      obtain ⟨E, hE⟩ : ∃ E, runesBytes xs = E := ⟨_, rfl⟩
      rw [hE] at hcv
      have HE := Lib.hid hE
      clear hE
      go_wp2
      go_ret
      exact ⟨by rw [HE.out]; rfl, b1⟩

end Go.Proofs.YtjoaaehfplcanaaDoor
