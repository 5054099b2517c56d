/-
  What the document's own functions of layer 9 return.
-/
import Derived.Test.YtpnfpndhkegngaaTbNew
namespace Go.Proofs.Ytpnfpndhkegngaa
open Go.RowKit Tb

set_option maxHeartbeats 1000000 in
set_option maxRecDepth 100000 in
theorem refNext_any (A : Option Addr) (n c B : Nat) (l : List Bool) (col : Int) (hn : n ≤ 100000) (w : World) (hr : Nums w B A n l) :
    Calls Try.prog 13 #[.slice A n c, .int .i64 col] w fun e w' => ∃ r : Nat, e = .returned (.int .i64 (r : Int)) ∧ IsNext l col r ∧ w = w' := by
  have HL := Lib.hid hr.1
  have HR := Lib.hid hr
  clear hr
  go_enter Try.func13, Try.ntmps13
  go_wp2
  go_loopg [5] (n + 1) (fun gk v5 wr => ∃ k : Nat, gk + k = n + 1 ∧ k ≤ n ∧ v5 = .int .i64 (k : Int) ∧ w = wr ∧ Aside (∀ i : Nat, col < (i : Int) → i < k → on l i = false))
  case atStart => exact ⟨0, by omega, Nat.zero_le _, rfl, rfl, fun i _ h => by omega⟩
  case round =>
    obtain ⟨k, hg, hkn, rfl, rfl, hA⟩ := hrel
    by_cases hlt : k < n
    · obtain ⟨g', rfl⟩ : ∃ g', gk = g' + 1 := ⟨gk - 1, by omega⟩
      have hz : (k : Int) < (n : Int) := by omega
      have hz0 : (0 : Int) ≤ (k : Int) := by omega
      by_cases hc : col < (k : Int)
      · obtain ⟨b, off, rfl, _, hcell⟩ := HR.out.2 k hlt
        obtain ⟨x, hx⟩ : ∃ x, l.getD k false = x := ⟨_, rfl⟩
        rw [hx] at hcell
        have HX := Lib.hid hx
        clear hx
        cases x with
        | true =>
          go_wp2
          go_ret
          exact ⟨k, rfl, .inl ⟨hc, HX.out, hA.out⟩, rfl⟩
        | false =>
          go_wp2
          go_roundg g'
          case measure => omega
          case rel =>
            refine ⟨k + 1, by omega, by omega, by go_num, rfl, fun i h1 h2 => ?_⟩
            rcases Nat.lt_or_ge i k with h3 | h3
            · exact hA.out i h1 h3
            · have : i = k := by omega
              rw [this]
              exact HX.out
      · go_wp2
        go_roundg g'
        case measure => omega
        case rel => exact ⟨k + 1, by omega, by omega, by go_num, rfl, fun i h1 h2 => hA.out i h1 (by omega)⟩
    · have hz : ¬ (k : Int) < (n : Int) := by omega
      have hq : k = n := by omega
      subst hq
      have hL := HL.out
      have hN : IsNext l col (k - 1) := .inr ⟨fun i h1 => by
        rcases Nat.lt_or_ge i k with h3 | h3
        · exact hA.out i h1 h3
        · exact on_ge (by omega), by rw [hL]⟩
      have HN := Lib.hid hN
      clear hN hA
      by_cases h0 : k = 0
      · subst h0
        go_wp2
        go_ret
        exact ⟨0, rfl, HN.out, rfl⟩
      · have h1 : ((k : Int) == 0) = false := by simpa using h0
        have h2 : (1 : Int) ≤ (k : Int) := by omega
        go_wp2
        go_ret
        exact ⟨k - 1, ret_int (by omega), HN.out, rfl⟩

set_option maxHeartbeats 1000000 in
set_option maxRecDepth 100000 in
theorem refPrev_any (A : Option Addr) (n c B : Nat) (l : List Bool) (col : Int) (hn : n ≤ 100000) (w : World) (hr : Nums w B A n l) :
    Calls Try.prog 15 #[.slice A n c, .int .i64 col] w fun e w' => ∃ r : Nat, e = .returned (.int .i64 (r : Int)) ∧ IsPrev l col r ∧ w = w' := by
  have HL := Lib.hid hr.1
  have HR := Lib.hid hr
  clear hr
  go_enter Try.func15, Try.ntmps15
  go_wp2
  go_loopg [5, 6] (n + 1) (fun gk v5 v6 wr => ∃ k r : Nat, gk + k = n + 1 ∧ k ≤ n ∧ v6 = .int .i64 (k : Int) ∧ v5 = .int .i64 (r : Int) ∧ w = wr ∧ Aside (((k : Int) ≤ col → IsPrev l (k : Int) r) ∧ (col < (k : Int) → IsPrev l col r)))
  case atStart => exact ⟨0, 0, by omega, Nat.zero_le _, rfl, rfl, rfl, fun _ => .inr ⟨fun i h => by omega, rfl⟩, fun _ => .inr ⟨fun i h => by omega, rfl⟩⟩
  case round =>
    obtain ⟨k, r, hg, hkn, rfl, rfl, rfl, hA⟩ := hrel
    by_cases hlt : k < n
    · obtain ⟨g', rfl⟩ : ∃ g', gk = g' + 1 := ⟨gk - 1, by omega⟩
      have hz : (k : Int) < (n : Int) := by omega
      have hz0 : (0 : Int) ≤ (k : Int) := by omega
      by_cases hc : (k : Int) < col
      · obtain ⟨b, off, rfl, _, hcell⟩ := HR.out.2 k hlt
        obtain ⟨x, hx⟩ : ∃ x, l.getD k false = x := ⟨_, rfl⟩
        rw [hx] at hcell
        have HX := Lib.hid hx
        clear hx
        cases x with
        | true =>
          go_wp2
          go_roundg g'
          case measure => omega
          case rel => exact ⟨k + 1, k, by omega, by omega, by go_num, rfl, rfl, fun _ => .inl ⟨by omega, HX.out, fun i a b => by omega⟩, fun h => by omega⟩
        | false =>
          go_wp2
          go_roundg g'
          case measure => omega
          case rel =>
            refine ⟨k + 1, r, by omega, by omega, by go_num, rfl, rfl, fun _ => (hA.out.1 (by omega)).more (d := ((k + 1 : Nat) : Int)) (by omega) (fun i h1 h2 => ?_), fun h => by omega⟩
            have : i = k := by omega
            rw [this]
            exact HX.out
      · go_wp2
        go_roundg g'
        case measure => omega
        case rel =>
          refine ⟨k + 1, r, by omega, by omega, by go_num, rfl, rfl, fun h => by omega, fun _ => ?_⟩
          rcases Int.lt_or_le col (k : Int) with h3 | h3
          · exact hA.out.2 h3
          · have e : (k : Int) = col := by omega
            rw [← e]
            exact hA.out.1 h3
    · have hL := HL.out
      have hz : ¬ (k : Int) < (n : Int) := by omega
      have hP : IsPrev l col r := by
        rcases Int.lt_or_le col (k : Int) with h3 | h3
        · exact hA.out.2 h3
        · refine (hA.out.1 h3).more h3 (fun i h1 h2 => ?_)
          exact on_ge (by omega)
      have HP := Lib.hid hP
      clear hP hA
      go_wp2
      go_ret
      exact ⟨r, rfl, HP.out, rfl⟩

set_option maxRecDepth 100000 in
theorem limited_any (width : Int) (w : World) : Calls Try.prog 23 #[.int .i64 width] w fun e w' => e = .returned (.int .i64 (lim width : Int)) ∧ w = w' := by
  by_cases h0 : width < 0
  · have e : (lim width : Int) = 0 := by unfold lim; omega
    rw [e]
    go_enter Try.func23, Try.ntmps23
    clear e
    go_wp2
    go_ret
    exact ⟨rfl, rfl⟩
  · by_cases h1 : 1000 < width
    · have e : (lim width : Int) = 1000 := by unfold lim; omega
      rw [e]
      clear e
      go_enter Try.func23, Try.ntmps23
      go_wp2
      go_ret
      exact ⟨rfl, rfl⟩
    · have e : (lim width : Int) = width := by unfold lim; omega
      rw [e]
      clear e
      go_enter Try.func23, Try.ntmps23
      go_wp2
      go_ret
      exact ⟨rfl, rfl⟩

theorem fit_one_lt (l : List Bool) (k : Nat) (x : Bool) (hk : k < l.length) (hx : l.getD k false = x) : fit l k ++ [x] = fit l (k + 1) := by
  rw [fit_succ, ← hx]
  simp [hk]
theorem fit_one_ge (l : List Bool) (k : Nat) (hk : ¬ k < l.length) : fit l k ++ [k % 8 == 0] = fit l (k + 1) := by
  rw [fit_succ]
  simp [hk]

set_option maxHeartbeats 1000000 in
set_option maxRecDepth 100000 in
theorem refResize_any (A : Option Addr) (n c B : Nat) (l : List Bool) (width : Int) (w : World) (hr : Nums w B A n l) (hB : B ≤ w.heap.size) :
    Calls Try.prog 22 #[.slice A n c, .int .i64 width] w fun e w' => ∃ A1 c1, e = .returned (.slice A1 (lim width) c1) ∧ Out w w' (.slice A1 (lim width) c1) (fit l (lim width)) := by
  have hle := lim_le width
  have CL := Lib.hid (fun w => limited_any width w)
  generalize lim width = m at hle CL ⊢
  have HL := Lib.hid hr.1
  have HR := Lib.hid hr
  have O0 := Lib.hid (Out.laid w)
  clear hr
  go_enter Try.func22, Try.ntmps22
  go_wp2
  go_loopg [5, 6] (m + 1) (fun gk v5 v6 wr => ∃ k : Nat, gk + k = m + 1 ∧ k ≤ m ∧ v6 = .int .i64 (k : Int) ∧ Aside (Out w wr v5 (fit l k)))
  case atStart => exact ⟨0, by omega, Nat.zero_le _, rfl, O0.out⟩
  case round =>
    obtain ⟨k, hg, hkn, rfl, hA⟩ := hrel
    by_cases hlt : k < m
    · obtain ⟨g', rfl⟩ : ∃ g', gk = g' + 1 := ⟨gk - 1, by omega⟩
      have hz : (k : Int) < (m : Int) := by omega
      have hz0 : (0 : Int) ≤ (k : Int) := by omega
      have hfl : (fit l k).length ≤ 100000 := by rw [fit_length]; omega
      by_cases hc : k < n
      · have hzn : (k : Int) < (n : Int) := by omega
        obtain ⟨b, off, rfl, _, hcell⟩ := (HR.out.below hA.out.2 hB).2 k hc
        obtain ⟨x, hx⟩ : ∃ x, l.getD k false = x := ⟨_, rfl⟩
        rw [hx] at hcell
        have HX := Lib.hid (fit_one_lt l k x (by rw [HL.out]; exact hc) hx)
        clear hx
        go_wp2_with (first | (go_at_call 23; refine (CL.out _).mono ?_; rintro e w1 ⟨rfl, rfl⟩) | (at_builtin; refine wpList_push rfl (.tmp 18) (.tmp 23) rfl w _ _ (fit l k) x rfl rfl hA.out hfl ?_; intro v4 w4 hout4; have HO4 := Lib.hid hout4; clear hout4))
        go_roundg g'
        case measure => omega
        case rel => exact ⟨k + 1, by omega, by omega, by go_num, by show Out _ _ _ _; rw [← HX.out]; exact HO4.out⟩
      · have hzn : ¬ (k : Int) < (n : Int) := by omega
        have hr8 := rem8 k
        have hone := fit_one_ge l k (by rw [HL.out]; exact hc)
        obtain ⟨y, hy⟩ : ∃ y, k % 8 = y := ⟨_, rfl⟩
        rw [hy] at hr8 hone
        have HX := Lib.hid hone
        clear hone hy
        by_cases hy0 : y = 0
        · subst hy0
          go_wp2_with (first | (go_at_call 23; refine (CL.out _).mono ?_; rintro e w1 ⟨rfl, rfl⟩) | (at_builtin; refine wpList_push rfl (.tmp 25) (.tmp 29) rfl w _ _ (fit l k) true rfl rfl hA.out hfl ?_; intro v4 w4 hout4; have HO4 := Lib.hid hout4; clear hout4))
          go_roundg g'
          case measure => omega
          case rel => exact ⟨k + 1, by omega, by omega, by go_num, by show Out _ _ _ _; rw [← HX.out]; exact HO4.out⟩
        · have hyz : (((y : Int)) == 0) = false := by simpa using hy0
          have hyn : ((y == 0) : Bool) = false := by simpa using hy0
          rw [hyn] at HX
          clear hyn hy0
          go_wp2_with (first | (go_at_call 23; refine (CL.out _).mono ?_; rintro e w1 ⟨rfl, rfl⟩) | (at_builtin; refine wpList_push rfl (.tmp 25) (.tmp 29) rfl w _ _ (fit l k) false rfl rfl hA.out hfl ?_; intro v4 w4 hout4; have HO4 := Lib.hid hout4; clear hout4))
          go_roundg g'
          case measure => omega
          case rel => exact ⟨k + 1, by omega, by omega, by go_num, by show Out _ _ _ _; rw [← HX.out]; exact HO4.out⟩
    · have hz : ¬ (k : Int) < (m : Int) := by omega
      have hq : k = m := by omega
      subst hq
      obtain ⟨A1, c1, he⟩ := hA.out.slice
      rw [fit_length] at he
      subst he
      go_wp2_with (go_at_call 23; refine (CL.out _).mono ?_; rintro e w1 ⟨rfl, rfl⟩)
      go_ret
      exact ⟨_, _, rfl, hA.out⟩

set_option maxRecDepth 100000 in
theorem refNew_any (width : Int) (w : World) :
    Calls Try.prog 18 #[.int .i64 width] w fun e w' => ∃ A1 c1, e = .returned (.slice A1 (lim width) c1) ∧ Out w w' (.slice A1 (lim width) c1) (deflt (lim width)) := by
  have hn : Nums w 0 none 0 [] := ⟨rfl, fun j hj => by omega⟩
  have CL := Lib.hid (refResize_any none 0 0 0 [] width w hn (Nat.zero_le _))
  clear hn
  go_enter Try.func18, Try.ntmps18
  go_wp2_with fail
  refine CL.out.mono ?_
  rintro e w1 ⟨A1, c1, rfl, hO⟩
  rw [fit_nil] at hO
  have HO := Lib.hid hO
  clear hO CL
  go_wp2
  go_ret
  exact ⟨_, _, rfl, HO.out⟩

set_option maxHeartbeats 1000000 in
set_option maxRecDepth 100000 in
theorem refSet_any (A : Option Addr) (n c B : Nat) (l : List Bool) (col : Int) (b : Bool) (hn : n ≤ 1000) (w : World) (hr : Nums w B A n l) (hB : B ≤ w.heap.size) (hnil : A = none → n = 0 ∧ c = 0) :
    Calls Try.prog 20 #[.slice A n c, .int .i64 col, .bool b] w fun e w' => ∃ A1 c1, e = .returned (.slice A1 n c1) ∧ Out w w' (.slice A1 n c1) (put l col b) := by
  have hL := hr.1
  have O0 := Lib.hid (Out.laid w)
  have hl : ([] : List Bool).length + l.length ≤ 100000 := by simp; omega
  have HR := Lib.hid (hr.alloc hB (.cells #[] 4))
  have HN := Lib.hid hnil
  have HL := Lib.hid hL
  clear hr hnil hL
  by_cases h0 : 0 ≤ col
  · by_cases h1 : col < (n : Int)
    · obtain ⟨k, rfl⟩ : ∃ k : Nat, col = (k : Int) := ⟨col.toNat, by omega⟩
      have hk : k < n := by omega
      go_enter Try.func20, Try.ntmps20
      go_wp2_with (at_builtin; refine wpList_join rfl (.tmp 8) (.tmp 9) rfl w _ _ [] l _ _ _ B rfl rfl O0.out HR.out HN.out hl ?_; intro v2 w2 hO2; obtain ⟨g, cap, rfl⟩ : ∃ g cap, v2 = .slice (some ⟨g, 0, none⟩) n cap := (by
        rcases hO2.1.2 with ⟨_, e⟩ | ⟨g, cap, cur, e, _⟩
        · simp at e; have := HL.out; rw [e] at this; simp at this; omega
        · exact ⟨g, cap, by rw [e]; simp [HL.out]⟩); rw [List.nil_append] at hO2; obtain ⟨hf, x, hx⟩ := hO2.free k hk; have HO2 := Lib.hid hO2; clear hO2)
      go_ret
      refine ⟨_, _, rfl, ?_⟩
      rw [put_of l k b (by rw [HL.out]; exact hk)]
      exact HO2.out.set k b
    · go_enter Try.func20, Try.ntmps20
      go_wp2_with (at_builtin; refine wpList_join rfl (.tmp 8) (.tmp 9) rfl w _ _ [] l _ _ _ B rfl rfl O0.out HR.out HN.out hl ?_; intro v2 w2 hO2; rw [List.nil_append] at hO2; obtain ⟨A1, c1, rfl⟩ : ∃ A1 c1, v2 = .slice A1 n c1 := (by obtain ⟨A1, c1, e⟩ := hO2.slice; rw [HL.out] at e; exact ⟨A1, c1, e⟩); have HO2 := Lib.hid hO2; clear hO2)
      go_ret
      refine ⟨_, _, rfl, ?_⟩
      have e : put l col b = l := by unfold put; rw [if_neg (fun e => by rw [HL.out] at e; omega)]
      rw [e]
      exact HO2.out
  · go_enter Try.func20, Try.ntmps20
    go_wp2_with (at_builtin; refine wpList_join rfl (.tmp 8) (.tmp 9) rfl w _ _ [] l _ _ _ B rfl rfl O0.out HR.out HN.out hl ?_; intro v2 w2 hO2; rw [List.nil_append] at hO2; obtain ⟨A1, c1, rfl⟩ : ∃ A1 c1, v2 = .slice A1 n c1 := (by obtain ⟨A1, c1, e⟩ := hO2.slice; rw [HL.out] at e; exact ⟨A1, c1, e⟩); have HO2 := Lib.hid hO2; clear hO2)
    go_ret
    refine ⟨_, _, rfl, ?_⟩
    have e : put l col b = l := by unfold put; rw [if_neg (fun e => by omega)]
    rw [e]
    exact HO2.out

end Go.Proofs.Ytpnfpndhkegngaa
