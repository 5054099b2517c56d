/-
  The statement on printable text returns true, for every parser and every string.
-/
import Derived.Test.YtckknodckiljkaaDoorCopy
import Derived.Test.YtckknodckiljkaaDoorVtMore
namespace Go.Proofs.YtckknodckiljkaaDoor
open Go.RowKit

/-- A printable byte of any byte. -/
def txt (b : UInt8) : UInt8 := UInt8.ofNat (32 + b.toNat % 95)
theorem txt_nat (b : UInt8) : (txt b).toNat = 32 + b.toNat % 95 := by unfold txt; rw [UInt8.toNat_ofNat']; omega
def txts (l : List UInt8) : List UInt8 := l.flatMap fun b => [txt b, 127]
def wants (l : List UInt8) : List Vt.E := l.map fun b => Vt.prt ((txt b).toNat : Int)
theorem ended_nil : U8.ended [] = [] := rfl
theorem rd_text (b : UInt8) : Vt.rd Vt.zero (txt b) = (Vt.zero, [Vt.prt ((txt b).toNat : Int)]) := by
  have hb := txt_nat b
  have hc : Vt.isCtl (txt b) = false := by unfold Vt.isCtl; simp; omega
  show Vt.ground [] (txt b) = _
  unfold Vt.ground
  rw [hc]
  have hr : U8.run ([] ++ [txt b]) = ([((txt b).toNat : Int)], []) := by
    have := U8.run_ascii [] [] (txt b) (by omega)
    exact this
  rw [if_neg (by decide), hr]
  have hp : Vt.printed ((txt b).toNat : Int) = true := by unfold Vt.printed; simp; omega
  simp [Vt.prints, hp]
  rfl
theorem rd_del : Vt.rd Vt.zero 127 = (Vt.zero, []) := rfl
theorem from_text (l : List UInt8) : ∀ es, Vt.from_ (Vt.zero, es) (txts l) = (Vt.zero, es ++ wants l) := by
  induction l with
  | nil => intro es; simp [txts, wants, Vt.from_nil]
  | cons b l ih =>
    intro es
    have e : txts (b :: l) = txt b :: 127 :: txts l := rfl
    rw [e, Vt.from_cons, Vt.from_cons]
    have e1 : Vt.add (Vt.zero, es) (txt b) = (Vt.zero, es ++ [Vt.prt ((txt b).toNat : Int)]) := by simp [Vt.add, rd_text]
    have e2 : Vt.add (Vt.zero, es ++ [Vt.prt ((txt b).toNat : Int)]) 127 = (Vt.zero, es ++ [Vt.prt ((txt b).toNat : Int)]) := by simp [Vt.add, rd_del]
    rw [e1, e2, ih]
    simp [wants]
theorem feed_text (p : Vt.P) (l : List UInt8) : ∃ es, (es = [] ∨ es = [Vt.prt 65533]) ∧ Vt.feed p (24 :: txts l) = (Vt.zero, es ++ wants l) := by
  have h := Vt.rd_cancel (Vt.proper_norm p) 24 rfl
  obtain ⟨q, es, hq⟩ : ∃ q es, Vt.rd (Vt.norm p) 24 = (q, es) := ⟨_, _, rfl⟩
  rw [hq] at h
  simp only at h
  refine ⟨es, h.2, ?_⟩
  unfold Vt.feed
  rw [Vt.from_cons]
  have e : Vt.add (Vt.norm p, []) 24 = (Vt.zero, es) := by simp [Vt.add, hq, h.1]
  rw [e, from_text]
theorem txts_take (l : List UInt8) (k : Nat) (hk : k < l.length) : txts (l.take (k + 1)) = txts (l.take k) ++ [txt l[k], 127] := by
  rw [List.take_succ_eq_append_getElem hk]
  unfold txts
  rw [List.flatMap_append]
  rfl
theorem wants_take (l : List UInt8) (k : Nat) (hk : k < l.length) : wants (l.take (k + 1)) = wants (l.take k) ++ [Vt.prt ((txt l[k]).toNat : Int)] := by
  rw [List.take_succ_eq_append_getElem hk]
  unfold wants
  rw [List.map_append]
  rfl
theorem txts_len (l : List UInt8) : (txts l).length = 2 * l.length := by
  induction l with
  | nil => rfl
  | cons b l ih =>
    have e : txts (b :: l) = txt b :: 127 :: txts l := rfl
    rw [e]; simp [ih]; omega
theorem wants_len (l : List UInt8) : (wants l).length = l.length := by simp [wants]
/-- string of two bytes that were just laid. -/
theorem u8_two (W : World) (a b : UInt8) : (convert 44 9 (.slice (some ⟨W.heap.size, 0, none⟩) 2 2)).run Tryd.prog (W.alloc (.cells #[.int .u8 (a.toNat : Int), .int .u8 (b.toNat : Int)] 5)) = .ok (.string (ba [a, b])) (W.alloc (.cells #[.int .u8 (a.toNat : Int), .int .u8 (b.toNat : Int)] 5)) := by
  refine run_convert_bytes_back (P := Tryd.prog) _ 44 9 5 ⟨W.heap.size, 0, none⟩ 2 [a, b] Tryd.underlying44 Tryd.underlying5 Tryd.underlying9 (fun j hj => ?_)
  have e : (W.alloc (.cells #[.int .u8 (a.toNat : Int), .int .u8 (b.toNat : Int)] 5)).heap[W.heap.size]? = some (.cells #[.int .u8 (a.toNat : Int), .int .u8 (b.toNat : Int)] 5) := heap_alloc_new W _
  obtain rfl | rfl : j = 0 ∨ j = 1 := by simp at hj; omega
  · exact cell_of_row _ _ 0 _ _ _ e
  · exact cell_of_row _ _ 1 _ _ _ e

theorem OutE.one_at (w0 w : World) (k : Nat) (hk : k = w.heap.size) (g : G) (hb : Below w0.heap.size w0 w) (hp : Par w w0.heap.size none g) (cs : Array Value) (hcs : g.cells.toArray = cs) : OutE w0 (w.alloc (.cells cs 33)) (.slice (some ⟨k, 0, none⟩) 1 1) [g.e] := by
  subst hk
  exact OutE.one w0 w g hb hp cs hcs
theorem OutE.cap {w0 w : World} {A : Option Addr} {n c : Nat} {es : List Vt.E} (h : OutE w0 w (.slice A n c) es) : n ≤ c := by
  obtain ⟨gs, _, h2, _⟩ := h
  rcases h2.2 with ⟨e, _⟩ | ⟨g, cap, cur, e, _, _, hle, _⟩
  · injection e with _ e1 e2; omega
  · injection e with _ e1 e2; omega
/-- Where a slice of events that is cut at its second element begins. -/
def cutE (A : Option Addr) (c : Nat) : Option Addr := if c = 1 then A else A.map (·.add 7)
theorem slice_one (A : Option Addr) (m c : Nat) (hm : 1 ≤ m) (w : World) :
    (Instr.slice 26 (.slice A m c) (some (.int .i64 1)) none none).run Tryd.prog w = .ok (.slice (cutE A c) (m - 1) (c - 1)) w := by
  have ht : Tryd.prog.underlying 26 = some (.slice (Tryd.prog.elem 26)) := by kernel_rfl
  rw [run_slice_l w 26 A m c ht .i64 1 (by omega) (by omega)]
  have h : (sizeOf (Tryd.prog.elem 26)).run Tryd.prog w = .ok 7 w := by kernel_rfl
  rw [h]
  simp [Result.andThen, sliced, cutE]
theorem Evs.cut {w : World} {A : Option Addr} {n c : Nat} {e : Vt.E} {es : List Vt.E} (h : Evs w A n (e :: es)) (hc : n ≤ c) : Evs w (cutE A c) (n - 1) es := by
  obtain ⟨gs, h1, h2, h3, h4⟩ := h
  cases gs with
  | nil => cases h1
  | cons g gs =>
    rw [List.map_cons] at h1
    injection h1 with _ h1
    rw [List.length_cons] at h2
    refine ⟨gs, h1, by omega, fun j g' hj => ?_, fun g' hg => h4 g' (List.mem_cons_of_mem _ hg)⟩
    obtain ⟨b, off, e, hlt, hcell⟩ := h3 (j + 1) g' (by simpa using hj)
    subst e
    have hjl : j < gs.length := by
      rcases Nat.lt_or_ge j gs.length with h | h
      · exact h
      · rw [List.getElem?_eq_none h] at hj; cases hj
    refine ⟨b, off + 7, ?_, hlt, fun i v hv => ?_⟩
    · unfold cutE
      rw [if_neg (by omega)]
      simp [Addr.add]
    · have := hcell i v hv
      rw [show off + (7 * (j + 1) + i) = off + 7 + (7 * j + i) by omega] at this
      exact this
theorem OutE.laid (w : World) : OutE w (w.alloc (.cells #[] 33)) (.slice (some ⟨w.heap.size, 0, none⟩) 0 0) [] :=
  ⟨[], rfl, World.ownsRow_made w #[] 0 (Nat.le_refl _) (Nat.zero_le _) rfl, (fun g hg => by cases hg), (Below.refl _ _).alloc (Nat.le_refl _) _⟩

set_option maxHeartbeats 4000000 in
set_option maxRecDepth 100000 in
theorem text_walk (p : Vt.P) (s : ByteArray) (w : World) (hp : p.pe.length ≤ 9223372036854775807) (hq : p.bu.length ≤ 9223372036854775807) (hs : s.size ≤ 9223372036854775807) (hT : Lib.Utf8Tabs 0 1 w) :
    Calls Tryd.prog 10 #[.agg #[.int .i64 p.st, .string (ba p.pe), .string (ba p.bu)], .string s] w fun e w' => e = .returned (.bool true) ∧ Below w.heap.size w w' := by
  have K0 := Lib.hid ((Kp.start hT).more p)
  obtain ⟨st, pe, bu⟩ := p
  by_cases hbig : 400 < pe.length ∨ 400 < bu.length ∨ 400 < s.size
  · have CL := Lib.hid (fun W => large_yes ⟨st, pe, bu⟩ s W hbig hp hq hs)
    go_enter Tryd.func10, Tryd.ntmps10
    go_wp2_with fail
    refine (CL.out _).mono ?_
    rintro e w1 ⟨rfl, b1⟩
    have K1 := Lib.hid (K0.out.below b1)
    clear CL b1 K0
    go_wp2_with fail
    refine (awake_true w1 K1.out.2.2).mono ?_
    rintro e w2 ⟨rfl, b2⟩
    go_wp2
    go_ret
    exact ⟨rfl, (K1.out.below b2).2.1⟩
  · have hpe : pe.length ≤ 400 := by omega
    have hbu : bu.length ≤ 400 := by omega
    have hss : s.size ≤ 400 := by omega
    have CL := Lib.hid (fun W => large_no ⟨st, pe, bu⟩ s W hpe hbu hss)
    obtain ⟨es, hes, e1⟩ := feed_text ⟨st, pe, bu⟩ s.data.toList
    have hsl := Lib.size_eq s
    have C1 := fun W hT => feed_any ⟨st, pe, bu⟩ (ba (24 :: txts s.data.toList)) W (Nat.le_trans hpe (by decide)) (Nat.le_trans hbu (by decide)) (by rw [ba_size]; simp [txts_len]; omega) hT
    rw [ba_list, e1] at C1
    have C1 := Lib.hid C1
    have HSL := Lib.hid hsl
    clear e1 hbig hsl
    go_enter Tryd.func10, Tryd.ntmps10
    go_wp2_with fail
    refine (CL.out _).mono ?_
    rintro e w1 ⟨rfl, b1⟩
    have K1 := Lib.hid (K0.out.below b1)
    clear CL b1 K0
    go_wp2
    go_loopg [5, 6, 7, 8, 18] (s.size + 1) (fun gk v5 v6 _ _ i wr => ∃ k : Nat, gk + k = s.size + 1 ∧ k ≤ s.size ∧ i = .int .i64 (k : Int) ∧ v5 = .string (ba (24 :: txts (s.data.toList.take k))) ∧ ∃ A' n' c', v6 = .slice A' n' c' ∧ Aside (OutE w1 wr (.slice A' n' c') (wants (s.data.toList.take k))))
    case atStart =>
      exact ⟨0, by omega, Nat.zero_le _, rfl, rfl, _, _, _, rfl, OutE.laid w1⟩
    case round =>
      obtain ⟨k, hg, hks, rfl, rfl, A1, n1, c1, rfl, hO⟩ := hrel
      by_cases hlt : k < s.size
      · obtain ⟨g', rfl⟩ : ∃ g', gk = g' + 1 := ⟨gk - 1, by omega⟩
        have hz : (k : Int) < (s.size : Int) := by omega
        have hz0 : (0 : Int) ≤ (k : Int) := by omega
        obtain ⟨b, hb⟩ : ∃ b, s[k] = b := ⟨_, rfl⟩
        have hkl : k < s.data.toList.length := by rw [← HSL.out]; exact hlt
        have HB : Hid (s.data.toList[k] = b) := Lib.hid hb
        have HT1 := Lib.hid (txts_take s.data.toList k hkl)
        have HT2 := Lib.hid (wants_take s.data.toList k hkl)
        rw [HB.out] at HT1 HT2
        have hwl := wants_len (s.data.toList.take k)
        rw [List.length_take] at hwl
        have htl := txts_len (s.data.toList.take k)
        rw [List.length_take] at htl
        obtain ⟨d, hd⟩ : ∃ d : Nat, b.toNat % 95 = d := ⟨_, rfl⟩
        have hd95 : d < 95 := by omega
        have hdz : (b.toNat : Int) % 95 = (d : Int) := by omega
        have hcn : (txt b).toNat = 32 + d := by rw [txt_nat, hd]
        have hcz : ((txt b).toNat : Int) = 32 + (d : Int) := by omega
        have hcv := u8_two wr (txt b) 127
        rw [hcz] at hcv HT2
        have e127 : (((127 : UInt8).toNat : Nat) : Int) = 127 := rfl
        rw [e127] at hcv
        clear e127
        obtain ⟨y, hy⟩ : ∃ y, ba [txt b, 127] = y := ⟨_, rfl⟩
        rw [hy] at hcv
        have HY := Lib.hid hy
        have hys : y.size = 2 := by rw [← hy, ba_size]; rfl
        obtain ⟨x, hx⟩ : ∃ x, ba (24 :: txts (s.data.toList.take k)) = x := ⟨_, rfl⟩
        have hxs : x.size ≤ 1000 := by rw [← hx, ba_size]; simp; omega
        have HX := Lib.hid hx
        have hsum : ¬ 9223372036854775807 < x.size + y.size := by omega
        have hwl2 : (wants (s.data.toList.take k)).length ≤ 1000 := by omega
        rw [hx]
        clear hy hx hys htl hwl hcn hcz hd hxs
        go_wp2_with (at_builtin; refine wpList_joinE rfl (.tmp 31) (.tmp 35) rfl w1 _ _ _ _ [Vt.prt (32 + (d : Int))] _ 1 1 rfl rfl (hO.out.alloc _) (OutE.one_at _ _ (wr.heap.size + 1) (by simp) ⟨Vt.prt (32 + (d : Int)), none, 0, 0⟩ (Below.refl _ _) (Par.none rfl rfl) _ rfl) (by simp; omega) ?_; intro A2 n2 c2 w2 hO2)
        go_roundg g'
        case measure => omega
        case rel =>
          refine ⟨k + 1, by omega, by omega, by go_num, ?_, A2, n2, c2, rfl, ?_⟩
          · rw [HT1.out, ← HX.out, ← HY.out, ba_app]
            rfl
          · rw [HT2.out]
            exact hO2
      · have hz : ¬ (k : Int) < (s.size : Int) := by omega
        have htk : s.data.toList.take k = s.data.toList := List.take_of_length_le (by rw [← HSL.out]; omega)
        rw [htk] at hO ⊢
        have K2 := Lib.hid (K1.out.below hO.out.low)
        have hn1 := Lib.hid hO.out.len.1
        have E1 := Lib.hid hO.out.evs
        have hnn : n1 ≤ 1000 := by rw [hn1.out, wants_len, ← HSL.out]; omega
        have HW0 : Hid (s.size = 0 → wants s.data.toList = []) := Lib.hid (fun h => List.eq_nil_of_length_eq_zero (by rw [wants_len, ← HSL.out]; exact h))
        have HWR : Hid (∀ e ∈ wants s.data.toList, e.r ≠ 65533 ∧ e.ps = []) := Lib.hid (fun e he => by
          unfold wants at he
          rw [List.mem_map] at he
          obtain ⟨b, _, rfl⟩ := he
          have := txt_nat b
          refine ⟨?_, rfl⟩
          show ((txt b).toNat : Int) ≠ 65533
          omega)
        have HWL : Hid (n1 = s.size) := Lib.hid (by rw [hn1.out, wants_len, ← HSL.out])
        generalize ba (24 :: txts s.data.toList) = x at C1
        generalize wants s.data.toList = ws at *
        clear htk hO K1 HSL hlt
        have z0 := (K2.out.rec 0 rfl).c0
        have z1 := (K2.out.rec 0 rfl).c1
        have z2 := (K2.out.rec 0 rfl).c2
        go_wp2_with fail
        refine (C1.out _ K2.out.2.2).mono ?_
        rintro e w3 ⟨A3, n3, c3, he, hO3⟩
        have he : e = .returned (.tuple #[.agg #[.int .i64 0, .string ⟨#[]⟩, .string ⟨#[]⟩], .slice A3 n3 c3]) := he
        subst he
        have K3 := Lib.hid ((K2.out.below hO3.low).more Vt.zero)
        have hn3 := Lib.hid hO3.len.1
        have hc3 := Lib.hid hO3.cap
        have b4 := (Below.refl w3.heap.size w3).alloc (Nat.le_refl _) (.cells #[.int .i64 0, .string ⟨#[]⟩, .string ⟨#[]⟩] 23)
        have E3 := Lib.hid hO3.evs
        have F1 := Lib.hid ((E1.out.below hO3.low).below b4)
        have B4 := Lib.hid b4
        clear hO3 C1 E1 K2 z0 z1 z2 b4
        rw [List.length_append] at hn3
        rcases hes with rfl | rfl
        · have hn31 : n3 = n1 := by have := hn3.out; have := hn1.out; simp at *; omega
          subst hn31
          rw [List.nil_append] at E3
          have CS := Lib.hid (sameEvents_any ws A3 A1 n3 c3 c1 _ (E3.out.below B4.out) F1.out (by omega) (fun e he => by rw [(HWR.out e he).2]; simp))
          by_cases h0 : n3 = 0
          · subst h0
            go_wp2_with fail
            refine CS.out.mono ?_
            rintro e w5 ⟨rfl, b5⟩
            have CA := Lib.hid (awake_true _ (K3.out.below b5).2.2)
            go_wp2_with fail
            refine CA.out.mono ?_
            rintro e w6 ⟨rfl, b6⟩
            go_wp2
            go_ret
            exact ⟨rfl, ((K3.out.below b5).below b6).2.1⟩
          · obtain ⟨bb, off, A5, n5, c5, e, rfl, he, hlb, hnm, p0, p1, p2, p3, p4, p5, p6⟩ := E3.out.at 0 (by omega)
            have her := (HWR.out e (List.mem_of_getElem? he)).1
            rw [Nat.zero_mul, Nat.add_zero] at p1
            have hez : (e.r == 65533) = false := by simpa using her
            have h0z : (0 : Int) < (n3 : Int) := by omega
            clear p0 p2 p3 p4 p5 p6 he hnm her E3
            go_wp2_with fail
            refine CS.out.mono ?_
            rintro e w5 ⟨rfl, b5⟩
            have CA := Lib.hid (awake_true _ (K3.out.below b5).2.2)
            go_wp2_with fail
            refine CA.out.mono ?_
            rintro e w6 ⟨rfl, b6⟩
            go_wp2
            go_ret
            exact ⟨rfl, ((K3.out.below b5).below b6).2.1⟩
        · have hn31 : n3 = n1 + 1 := by have := hn3.out; have := hn1.out; simp at *; omega
          subst hn31
          obtain ⟨bb, off, A5, n5, c5, e, rfl, he, hlb, hnm, p0, p1, p2, p3, p4, p5, p6⟩ := E3.out.at 0 (by omega)
          obtain rfl : Vt.prt 65533 = e := by simpa using he
          rw [Nat.zero_mul, Nat.add_zero] at p1
          have p1 : w3.cell? ⟨bb, off + 1, none⟩ = some (.int .i32 65533) := p1
          have hsl := fun W => slice_one (some ⟨bb, off, none⟩) (n1 + 1) c3 (by omega) W
          have hcut := Lib.hid (E3.out.cut hc3.out)
          rw [Nat.add_sub_cancel] at hsl hcut
          generalize cutE (some ⟨bb, off, none⟩) c3 = A6 at hsl hcut
          have h0z : (0 : Int) < ((n1 + 1 : Nat) : Int) := by omega
          have CS := Lib.hid (sameEvents_any ws A6 A1 n1 (c3 - 1) c1 _ (hcut.out.below B4.out) F1.out (by omega) (fun e he => by rw [(HWR.out e he).2]; simp))
          clear p0 p2 p3 p4 p5 p6 he hnm E3 hcut
          go_wp2_with fail
          refine CS.out.mono ?_
          rintro e w5 ⟨rfl, b5⟩
          have CA := Lib.hid (awake_true _ (K3.out.below b5).2.2)
          go_wp2_with fail
          refine CA.out.mono ?_
          rintro e w6 ⟨rfl, b6⟩
          go_wp2
          go_ret
          exact ⟨rfl, ((K3.out.below b5).below b6).2.1⟩

end Go.Proofs.YtckknodckiljkaaDoor
