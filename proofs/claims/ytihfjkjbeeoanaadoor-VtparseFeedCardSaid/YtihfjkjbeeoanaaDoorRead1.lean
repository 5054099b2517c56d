/-
  The small functions of vtparse: what isControl, endCommand, readControl, keep and printEvents return.
-/
import Derived.Test.YtihfjkjbeeoanaaDoorEvs
import Derived.Laws.IdiomStrings
import Derived.Deep.RegionLaw
import Derived.Deep.RegionWith
import Derived.Deep.RegionHeld3
import Derived.Deep.DeepFit
import Derived.Deep.DeepMust
import Derived.Deep.DeepCutAuto
namespace Go.Proofs.YtihfjkjbeeoanaaDoor
open Go.RowKit

set_option maxRecDepth 100000 in
theorem isControl_any (b : UInt8) (w : World) : Calls Tryd.prog 34 #[.int .u8 (b.toNat : Int)] w fun e w' => e = .returned (.bool (Vt.isCtl b)) ∧ w = w' := by
  obtain ⟨R, hR⟩ : ∃ R, Vt.isCtl b = R := ⟨_, rfl⟩
  rw [hR]
  unfold Vt.isCtl at hR
  by_cases h1 : b.toNat < 32
  · have h1z : (b.toNat : Int) < 32 := by omega
    rw [decide_eq_true h1, Bool.true_or] at hR
    subst hR
    go_enter Tryd.func34, Tryd.ntmps34
    go_wp2
    go_ret
    exact ⟨rfl, rfl⟩
  · have h1z : ¬ (b.toNat : Int) < 32 := by omega
    rw [decide_eq_false h1, Bool.false_or] at hR
    have e : ((b.toNat : Int) == 127) = R := by
      rw [← hR]
      by_cases h : b.toNat = 127
      · rw [h]; rfl
      · rw [decide_eq_false h]; simp; omega
    have HE := Lib.hid e
    clear e hR
    go_enter Tryd.func34, Tryd.ntmps34
    go_wp2
    go_ret
    exact ⟨ret_bool HE.out, rfl⟩

/-- The memory of a call that has taken its parser into a block and laid the block of its result. -/
def begun (w : World) (p q : Vt.P) : World := (w.alloc (.cells #[.int .i64 p.st, .string (ba p.pe), .string (ba p.bu)] 23)).alloc (.cells #[.int .i64 q.st, .string (ba q.pe), .string (ba q.bu)] 23)
theorem begun_size (w : World) (p q : Vt.P) : (begun w p q).heap.size = w.heap.size + 2 := by simp [begun]
theorem begun_arg (w : World) (p q : Vt.P) : Pk (begun w p q) w.heap.size p := (Pk.laid w p).alloc _
theorem begun_res (w : World) (p q : Vt.P) : Pk (begun w p q) (w.heap.size + 1) q := by
  have h := Pk.laid (w.alloc (.cells #[.int .i64 p.st, .string (ba p.pe), .string (ba p.bu)] 23)) q
  rw [World.size_alloc] at h
  exact h
theorem begun_low (w : World) (p q : Vt.P) : Below w.heap.size w (begun w p q) := ((Below.refl w.heap.size w).alloc (Nat.le_refl _) _).alloc (by simp) _
theorem no_events {w W : World} (h : Below w.heap.size w W) : OutE w W (.slice none 0 0) [] := (OutE.start W).rebase h
theorem begun_none (w : World) (p q : Vt.P) : OutE w (begun w p q) (.slice none 0 0) [] := no_events (begun_low w p q)
theorem begun_one (w : World) (p q : Vt.P) (e : Vt.E) (he : e.ps = []) (cs : Array Value) (hcs : (G.cells ⟨e, none, 0, 0⟩).toArray = cs) : OutE w ((begun w p q).alloc (.cells cs 33)) (.slice (some ⟨w.heap.size + 2, 0, none⟩) 1 1) [e] := by
  have h := OutE.one w (begun w p q) ⟨e, none, 0, 0⟩ (begun_low w p q) (Par.none he rfl) cs hcs
  rw [begun_size] at h
  exact h
theorem begun_one_res (w : World) (p q : Vt.P) (o : Obj) : Pk ((begun w p q).alloc o) (w.heap.size + 1) q := (begun_res w p q).alloc o

theorem u8_string (W : World) (k : Nat) (hk : k = W.heap.size) (b : UInt8) : (convert 43 9 (.slice (some ⟨k, 0, none⟩) 1 1)).run Tryd.prog (W.alloc (.cells #[.int .u8 (b.toNat : Int)] 5)) = .ok (.string (ba [b])) (W.alloc (.cells #[.int .u8 (b.toNat : Int)] 5)) := by
  subst hk
  have := run_convert_bytes_back (P := Tryd.prog) (W.alloc (.cells #[.int .u8 (b.toNat : Int)] 5)) 43 9 5 ⟨W.heap.size, 0, none⟩ 1 [b] Tryd.underlying43 Tryd.underlying5 Tryd.underlying9 (fun j hj => by
    have : j = 0 := by simp at hj; omega
    subst this
    simp [Addr.add])
  exact this

set_option maxHeartbeats 1000000 in
set_option maxRecDepth 100000 in
theorem endCommand_any (p : Vt.P) (w : World) :
    Calls Tryd.prog 21 #[.agg #[.int .i64 p.st, .string (ba p.pe), .string (ba p.bu)]] w (Gone w (Vt.done p).1 (Vt.done p).2) := by
  obtain ⟨st, pe, bu⟩ := p
  go_enter Tryd.func21, Tryd.ntmps21
  go_wp2
  go_region
  all_goals
    go_wp2
    refine bodyPost_ret (res_two rfl _ _ _ Vt.zero rfl (begun_one_res w ⟨st, pe, bu⟩ Vt.zero _).drew) rfl ⟨_, _, _, rfl, ?_⟩
    exact (begun_one w ⟨st, pe, bu⟩ Vt.zero ⟨5, 0, 0, 0, [], [], bu⟩ rfl _ rfl).drew

set_option maxHeartbeats 1000000 in
set_option maxRecDepth 100000 in
theorem readControl_any (p : Vt.P) (b : UInt8) (w : World) :
    Calls Tryd.prog 35 #[.agg #[.int .i64 p.st, .string (ba p.pe), .string (ba p.bu)], .int .u8 (b.toNat : Int)] w (Gone w (Vt.control p b).1 (Vt.control p b).2) := by
  obtain ⟨R, hR⟩ : ∃ R, Vt.control p b = R := ⟨_, rfl⟩
  rw [hR]
  unfold Vt.control at hR
  obtain ⟨st, pe, bu⟩ := p
  by_cases h1 : b.toNat = 27
  · rw [if_pos h1] at hR
    subst hR
    rw [h1]
    go_enter Tryd.func35, Tryd.ntmps35
    go_wp2
    refine bodyPost_ret (res_two rfl _ _ _ Vt.inEsc rfl (begun_res w ⟨st, pe, bu⟩ Vt.inEsc)) rfl ⟨_, _, _, rfl, ?_⟩
    exact begun_none w ⟨st, pe, bu⟩ Vt.inEsc
  · rw [if_neg h1] at hR
    by_cases h2 : b.toNat = 24
    · rw [if_pos (.inl h2)] at hR
      subst hR
      rw [h2]
      go_enter Tryd.func35, Tryd.ntmps35
      go_wp2
      refine bodyPost_ret (res_two rfl _ _ _ Vt.zero rfl (begun_res w ⟨st, pe, bu⟩ Vt.zero)) rfl ⟨_, _, _, rfl, ?_⟩
      exact begun_none w ⟨st, pe, bu⟩ Vt.zero
    · by_cases h3 : b.toNat = 26
      · rw [if_pos (.inr h3)] at hR
        subst hR
        rw [h3]
        go_enter Tryd.func35, Tryd.ntmps35
        go_wp2
        refine bodyPost_ret (res_two rfl _ _ _ Vt.zero rfl (begun_res w ⟨st, pe, bu⟩ Vt.zero)) rfl ⟨_, _, _, rfl, ?_⟩
        exact begun_none w ⟨st, pe, bu⟩ Vt.zero
      · rw [if_neg (by omega)] at hR
        by_cases h4 : b.toNat = 127
        · rw [if_pos h4] at hR
          subst hR
          rw [h4]
          go_enter Tryd.func35, Tryd.ntmps35
          go_wp2
          refine bodyPost_ret (res_two rfl _ _ _ ⟨st, pe, bu⟩ rfl (begun_res w ⟨st, pe, bu⟩ ⟨st, pe, bu⟩)) rfl ⟨_, _, _, rfl, ?_⟩
          exact begun_none w ⟨st, pe, bu⟩ ⟨st, pe, bu⟩
        · rw [if_neg h4] at hR
          subst hR
          have z1 : ((b.toNat : Int) == 27) = false := by simp; omega
          have z2 : ((b.toNat : Int) == 24) = false := by simp; omega
          have z3 : ((b.toNat : Int) == 26) = false := by simp; omega
          have z4 : ((b.toNat : Int) == 127) = false := by simp; omega
          go_enter Tryd.func35, Tryd.ntmps35
          go_wp2
          refine bodyPost_ret (res_two rfl _ _ _ ⟨st, pe, bu⟩ rfl (begun_one_res w ⟨st, pe, bu⟩ ⟨st, pe, bu⟩ _)) rfl ⟨_, _, _, rfl, ?_⟩
          exact begun_one w ⟨st, pe, bu⟩ ⟨st, pe, bu⟩ (Vt.ctl b) rfl _ rfl

set_option maxHeartbeats 1000000 in
set_option maxRecDepth 100000 in
theorem keep_any (p : Vt.P) (b : UInt8) (n : Nat) (w : World) (hn : n ≤ 1000) :
    Calls Tryd.prog 36 #[.agg #[.int .i64 p.st, .string (ba p.pe), .string (ba p.bu)], .int .u8 (b.toNat : Int), .int .i64 (n : Int)] w fun e w' => e = .returned (.agg #[.int .i64 (Vt.keep p b n).st, .string (ba (Vt.keep p b n).pe), .string (ba (Vt.keep p b n).bu)]) ∧ Below w.heap.size w w' := by
  obtain ⟨R, hR⟩ : ∃ R, Vt.keep p b n = R := ⟨_, rfl⟩
  rw [hR]
  unfold Vt.keep at hR
  obtain ⟨st, pe, bu⟩ := p
  have hs : (ba bu).size = bu.length := ba_size bu
  by_cases h1 : bu.length < n
  · rw [if_pos h1] at hR
    subst hR
    have hz : ((ba bu).size : Int) < (n : Int) := by omega
    have hsum : ¬ 9223372036854775807 < (ba bu).size + (ba [b]).size := by rw [hs, ba_size]; simp; omega
    have hcv := u8_string (begun w ⟨st, pe, bu⟩ Vt.zero) (w.heap.size + 1 + 1) (by rw [begun_size]) b
    have e : begun w ⟨st, pe, bu⟩ Vt.zero = (w.alloc (.cells #[.int .i64 st, .string (ba pe), .string (ba bu)] 23)).alloc (.cells #[.int .i64 0, .string ⟨#[]⟩, .string ⟨#[]⟩] 23) := rfl
    rw [e] at hcv
    obtain ⟨x, hx⟩ : ∃ x, ba [b] = x := ⟨_, rfl⟩
    rw [hx] at hcv hsum
    have HX := Lib.hid hx
    clear hs e hx
    go_enter Tryd.func36, Tryd.ntmps36
    go_wp2
    have hq : ba bu ++ x = ba (bu ++ [b]) := by rw [← HX.out]; exact ba_app bu [b]
    rw [hq]
    refine bodyPost_ret (res_parser rfl _ _ _ ⟨st, pe, bu ++ [b]⟩ rfl (begun_one_res w ⟨st, pe, bu ++ [b]⟩ ⟨st, pe, bu ++ [b]⟩ _)) rfl ⟨rfl, ?_⟩
    exact (begun_low w ⟨st, pe, bu ++ [b]⟩ ⟨st, pe, bu ++ [b]⟩).alloc (begun_low w _ _).size _
  · rw [if_neg h1] at hR
    subst hR
    have hz : ¬ ((ba bu).size : Int) < (n : Int) := by omega
    clear hs
    go_enter Tryd.func36, Tryd.ntmps36
    go_wp2
    refine bodyPost_ret (res_parser rfl _ _ _ ⟨st, pe, bu⟩ rfl (begun_res w ⟨st, pe, bu⟩ ⟨st, pe, bu⟩)) rfl ⟨rfl, ?_⟩
    exact begun_low w ⟨st, pe, bu⟩ ⟨st, pe, bu⟩

set_option maxHeartbeats 400000 in
set_option maxRecDepth 100000 in
theorem validRune_any (r : Int) (w : World) :
    Calls Tryd.prog 56 #[.int .i32 r] w fun e w' => e = .returned (.bool (decide (0 ≤ r ∧ r ≤ 1114111 ∧ ¬ (55296 ≤ r ∧ r ≤ 57343)))) ∧ w = w' := by
  obtain ⟨R, hR⟩ : ∃ R, decide (0 ≤ r ∧ r ≤ 1114111 ∧ ¬ (55296 ≤ r ∧ r ≤ 57343)) = R := ⟨_, rfl⟩
  rw [hR]
  have HR := Lib.hid hR
  clear hR
  go_enter Tryd.func56, Tryd.ntmps56
  go_wp2
  all_goals
    have hr := HR.out
    clear HR
    go_ret
    refine ⟨ret_bool ?_, rfl⟩
    rw [← hr]
    simp
    try omega

set_option maxHeartbeats 400000 in
set_option maxRecDepth 100000 in
theorem isPrinted_any (r : Int) (w : World) :
    Calls Tryd.prog 50 #[.int .i32 r] w fun e w' => e = .returned (.bool (Vt.printed r)) ∧ w = w' := by
  have cV := validRune_any r w
  obtain ⟨R, hR⟩ : ∃ R, Vt.printed r = R := ⟨_, rfl⟩
  rw [hR]
  unfold Vt.printed at hR
  obtain ⟨V, hV⟩ : ∃ V, decide (0 ≤ r ∧ r ≤ 1114111 ∧ ¬ (55296 ≤ r ∧ r ≤ 57343)) = V := ⟨_, rfl⟩
  rw [hV] at hR cV
  have HR := Lib.hid hR
  have CV := Lib.hid cV
  clear hR hV cV
  cases V
  · go_enter Tryd.func50, Tryd.ntmps50
    go_wp2_with fail
    refine CV.out.mono ?_
    rintro e w' ⟨rfl, rfl⟩
    go_wp2
    go_ret
    exact ⟨ret_bool HR.out, rfl⟩
  · by_cases h1 : 32 ≤ r
    · by_cases h2 : r < 127
      · go_enter Tryd.func50, Tryd.ntmps50
        go_wp2_with fail
        refine CV.out.mono ?_
        rintro e w' ⟨rfl, rfl⟩
        go_wp2
        go_ret
        exact ⟨ret_bool (by rw [← HR.out]; simp [h1, h2]), rfl⟩
      · go_enter Tryd.func50, Tryd.ntmps50
        go_wp2_with fail
        refine CV.out.mono ?_
        rintro e w' ⟨rfl, rfl⟩
        go_wp2
        go_ret
        exact ⟨ret_bool (by rw [← HR.out]; simp [h1]), rfl⟩
    · go_enter Tryd.func50, Tryd.ntmps50
      go_wp2_with fail
      refine CV.out.mono ?_
      rintro e w' ⟨rfl, rfl⟩
      go_wp2
      go_ret
      exact ⟨ret_bool (by rw [← HR.out]; simp; omega), rfl⟩

theorem prints_snoc (xs : List Int) (x : Int) : Vt.prints (xs ++ [x]) = Vt.prints xs ++ (if Vt.printed x then [Vt.prt x] else []) := by
  unfold Vt.prints
  rw [List.filter_append, List.map_append]
  cases h : Vt.printed x <;> simp [h]
theorem take_prints (xs : List Int) (k : Nat) (hk : k < xs.length) : Vt.prints (xs.take (k + 1)) = Vt.prints (xs.take k) ++ (if Vt.printed (xs.getD k 0) then [Vt.prt (xs.getD k 0)] else []) := by
  have e : xs[k] = xs.getD k 0 := by simp [List.getD_eq_getElem?_getD, hk]
  rw [List.take_succ_eq_append_getElem hk, prints_snoc, e]

set_option maxHeartbeats 1000000 in
set_option maxRecDepth 100000 in
theorem printEvents_any (A : Option Addr) (n c B : Nat) (xs : List Int) (w : World) (hB : B ≤ w.heap.size) (hX : Nums w B A n xs) (hn : n ≤ 1000) :
    Calls Tryd.prog 38 #[.slice A n c] w fun e w' => ∃ A' n' c', e = .returned (.slice A' n' c') ∧ OutE w w' (.slice A' n' c') (Vt.prints xs) := by
  have HX := Lib.hid hX
  clear hX
  go_enter Tryd.func38, Tryd.ntmps38
  go_wp2
  go_loopg [3, 5, 8] (n + 1) (fun gk v _ i wr => ∃ k : Nat, gk + k = n + 1 ∧ k ≤ n ∧ i = .int .i64 (k : Int) ∧ ∃ A' n' c', v = .slice A' n' c' ∧ Aside (OutE w wr (.slice A' n' c') (Vt.prints (xs.take k))))
  case atStart => exact ⟨0, by omega, Nat.zero_le _, rfl, none, 0, 0, rfl, OutE.start w⟩
  case round =>
    obtain ⟨k, hg, hkn, rfl, A1, n1, c1, rfl, hO⟩ := hrel
    have hlx := Lib.hid HX.out.1
    have hll : (Vt.prints (xs.take k)).length ≤ 1000 := by
      have h1 := Vt.prints_len (xs.take k)
      rw [List.length_take] at h1
      omega
    by_cases hlt : k < n
    · obtain ⟨g', rfl⟩ : ∃ g', gk = g' + 1 := ⟨gk - 1, by omega⟩
      have hz : (k : Int) < (n : Int) := by omega
      have hz0 : (0 : Int) ≤ (k : Int) := by omega
      obtain ⟨b, off, rfl, hb, hc0⟩ := HX.out.2 k hlt
      have hc := (hO.out.low.cell (p := ⟨b, off + k, none⟩) (Nat.lt_of_lt_of_le hb hB)).trans hc0
      have HT := Lib.hid (take_prints xs k (by rw [hlx.out]; exact hlt))
      generalize xs.getD k 0 = x at hc HT
      have CP := Lib.hid (fun W => isPrinted_any x W)
      obtain ⟨q, hq⟩ : ∃ q, Vt.printed x = q := ⟨_, rfl⟩
      rw [hq] at CP HT
      clear hc0 hq
      go_wp2_with fail
      refine (CP.out _).mono ?_
      rintro e w' ⟨rfl, rfl⟩
      cases q
      · go_wp2
        go_roundg g'
        case measure => omega
        case rel => exact ⟨k + 1, by omega, by omega, by go_num, _, _, _, rfl, by rw [HT.out]; simpa using hO⟩
      · go_wp2_with (at_builtin; refine wpList_joinE rfl (.tmp 14) (.tmp 17) rfl w _ _ _ _ [Vt.prt x] _ 1 1 rfl rfl hO.out (OutE.one _ _ ⟨Vt.prt x, none, 0, 0⟩ (Below.refl _ _) (Par.none rfl rfl) _ rfl) (by simp; omega) ?_; intro A2 n2 c2 w2 hO2)
        go_roundg g'
        case measure => omega
        case rel => exact ⟨k + 1, by omega, by omega, by go_num, _, _, _, rfl, by rw [HT.out]; exact hO2⟩
    · have hz : ¬ (k : Int) < (n : Int) := by omega
      have htk : xs.take k = xs := List.take_of_length_le (by rw [hlx.out]; omega)
      rw [htk] at hO
      clear htk
      go_wp2
      go_ret
      exact ⟨_, _, _, rfl, hO.out⟩

end Go.Proofs.YtihfjkjbeeoanaaDoor
