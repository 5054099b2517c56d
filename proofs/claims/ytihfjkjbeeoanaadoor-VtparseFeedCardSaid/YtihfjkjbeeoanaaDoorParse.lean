/-
  What Parse of csiparam returns, for every string of at most 500 bytes.
-/
import Derived.Test.YtihfjkjbeeoanaaDoorDivide
import Derived.Test.YtihfjkjbeeoanaaDoorValues
import Derived.Test.YtihfjkjbeeoanaaDoorLimits
namespace Go.Proofs.YtihfjkjbeeoanaaDoor.Ci
open Go.RowKit Go.Shelf

/-- What Parse leaves. -/
def Parsed (w : World) (p : UInt8) (ps : List Int) (i : List UInt8) (er : Int) (e : Ending) (w' : World) : Prop :=
  ∃ A n cap t, e = .returned (.tuple #[.int .u8 (p.toNat : Int), .slice A n cap, .string t, .int .i64 er]) ∧ t.data.toList = i ∧ Gives w w' A n cap ps

theorem Gives.after {w w1 w2 : World} {A : Option Addr} {n cap : Nat} {xs : List Int} (h : Gives w1 w2 A n cap xs) (hb : Below w.heap.size w w1) : Gives w w2 A n cap xs :=
  ⟨h.1, ⟨h.2.1.1, fun b off e => Nat.le_trans hb.size (h.2.1.2 b off e)⟩, hb.trans (h.2.2.mono hb.size)⟩
theorem Gives.later {w w1 w2 : World} {A : Option Addr} {n cap : Nat} {xs : List Int} (h : Gives w w1 A n cap xs) (hb : Below w1.heap.size w1 w2) : Gives w w2 A n cap xs :=
  ⟨(h.1.below hb (Nat.le_refl _)).more hb.size, h.2.1, h.2.2.trans (hb.mono h.2.2.size)⟩
theorem gives_nil (w : World) : Gives w w none 0 0 [] := ⟨⟨rfl, fun j hj => by omega⟩, ⟨fun _ => ⟨rfl, rfl⟩, fun b off e => by cases e⟩, Below.refl _ _⟩
theorem empty_bytes : ({ data := #[] } : ByteArray).data.toList = [] := rfl

theorem results_tmp4 {fn : Func} {t u v x : Tmp} (h : fn.results = #[.tmp t, .tmp u, .tmp v, .tmp x]) (tmps : Array Value) (P : Program) (w : World) :
    (results fn tmps).run P w = .ok (.tuple #[tmps.getD t undef, tmps.getD u undef, tmps.getD v undef, tmps.getD x undef]) w := by
  simp [results, h]
theorem ret_parse {a b : Int} {A : Option Addr} {n c : Nat} {t : ByteArray} {er : Int} (h : a = b) : Ending.returned (.tuple #[.int .u8 a, .slice A n c, .string t, .int .i64 er]) = .returned (.tuple #[.int .u8 b, .slice A n c, .string t, .int .i64 er]) := by rw [h]

set_option maxHeartbeats 1000000 in
set_option maxRecDepth 100000 in
theorem parse_any (s : ByteArray) (w : World) (hs : s.size ≤ 500) {p : UInt8} {ps : List Int} {i : List UInt8} {er : Int} (h : Cp.parse s.data.toList = (p, ps, i, er)) :
    Calls Tryd.prog 37 #[.string s] w (Parsed w p ps i er) := by
  have cD := divide_any s w (by omega)
  have hsl := Lib.size_eq s
  have hpm := congrArg List.length (Cp.par_mid s.data.toList)
  have htl : (Cp.tl s.data.toList).length ≤ s.data.toList.length := by
    have := congrArg List.length (Cp.hd_tl s.data.toList)
    rw [List.length_append] at this
    omega
  rw [List.length_append] at hpm
  have hpa := Cp.par_all s.data.toList
  have hvl : (Cp.vals (Cp.par s.data.toList)).length ≤ 1000 := by
    unfold Cp.vals
    split
    · simp
    · have := Cp.vs_len (-1) (Cp.par s.data.toList)
      omega
  unfold Divided at cD
  unfold Cp.parse at h
  generalize Cp.mk s.data.toList = m at cD h
  have hpl : (Cp.par s.data.toList).length ≤ 500 := by omega
  have hml : (Cp.mid s.data.toList).length ≤ 500 := by omega
  clear hsl hpm htl
  generalize Cp.par s.data.toList = P at cD h hpa hvl hpl
  generalize Cp.mid s.data.toList = M at cD h hml
  have CD := Lib.hid cD
  have HPA := Lib.hid hpa
  clear cD hpa
  by_cases h1 : M.all Cp.isMid = true
  · rw [if_pos h1] at h
    by_cases h2 : Cp.over (Cp.vals P) M = true
    · rw [if_pos h2] at h
      injection h with e1 e2
      injection e2 with e2 e3
      injection e3 with e3 e4
      subst e1 e2 e3 e4
      go_enter Tryd.func37, Tryd.ntmps37
      go_wp2_with fail
      refine CD.out.mono ?_
      rintro e w1 ⟨a, r, rfl, ha, hr, b1⟩
      have hrs : r.size ≤ 500 := by rw [Lib.size_eq, hr]; exact hml
      have has' : a.size ≤ 500 := by rw [Lib.size_eq, ha]; exact hpl
      have c1 := areMid_any r w1 (by omega)
      rw [hr, h1] at c1
      have c2 := fun W => values_any a W (by omega) (by rw [ha]; exact HPA.out)
      rw [ha] at c2
      have c3 := fun A n c xs W => exceeds_any A n c W.heap.size xs r W
      rw [hr] at c3
      have C1 := Lib.hid c1
      have C2 := Lib.hid c2
      have C3 := Lib.hid c3
      have HA := Lib.hid ha
      have HR := Lib.hid hr
      have H1 := Lib.hid h1
      have H2 := Lib.hid h2
      clear c1 c2 c3 ha hr CD h1 h2
      go_wp2_with fail
      refine C1.out.mono ?_
      rintro e w' ⟨rfl, rfl⟩
      go_wp2_with fail
      refine (C2.out w1).mono ?_
      rintro e w2 ⟨A2, n2, k2, rfl, g2⟩
      have G2 := Lib.hid g2
      have hn2 : n2 ≤ 1000 := by rw [g2.length]; exact hvl
      have c4 := C3.out A2 n2 k2 _ w2 g2.1 (by omega) (by omega)
      rw [H2.out] at c4
      have C4 := Lib.hid c4
      clear c4 g2
      go_wp2_with fail
      refine C4.out.mono ?_
      rintro e w' ⟨rfl, rfl⟩
      go_wp2
      (try simp only [Exit.inBlock, Exit.then]); refine bodyPost_ret (results_tmp4 rfl _ _ _) rfl ?_
      exact ⟨none, 0, 0, _, rfl, rfl, (gives_nil w2).after (G2.out.after b1).2.2⟩
    · rw [if_neg h2] at h
      rw [Bool.not_eq_true] at h2
      injection h with e1 e2
      injection e2 with e2 e3
      injection e3 with e3 e4
      subst e1 e2 e3 e4
      go_enter Tryd.func37, Tryd.ntmps37
      go_wp2_with fail
      refine CD.out.mono ?_
      rintro e w1 ⟨a, r, rfl, ha, hr, b1⟩
      have hrs : r.size ≤ 500 := by rw [Lib.size_eq, hr]; exact hml
      have has' : a.size ≤ 500 := by rw [Lib.size_eq, ha]; exact hpl
      have c1 := areMid_any r w1 (by omega)
      rw [hr, h1] at c1
      have c2 := fun W => values_any a W (by omega) (by rw [ha]; exact HPA.out)
      rw [ha] at c2
      have c3 := fun A n c xs W => exceeds_any A n c W.heap.size xs r W
      rw [hr] at c3
      have C1 := Lib.hid c1
      have C2 := Lib.hid c2
      have C3 := Lib.hid c3
      have HA := Lib.hid ha
      have HR := Lib.hid hr
      have H1 := Lib.hid h1
      have H2 := Lib.hid h2
      clear c1 c2 c3 ha hr CD h1 h2
      go_wp2_with fail
      refine C1.out.mono ?_
      rintro e w' ⟨rfl, rfl⟩
      go_wp2_with fail
      refine (C2.out w1).mono ?_
      rintro e w2 ⟨A2, n2, k2, rfl, g2⟩
      have G2 := Lib.hid g2
      have hn2 : n2 ≤ 1000 := by rw [g2.length]; exact hvl
      have c4 := C3.out A2 n2 k2 _ w2 g2.1 (by omega) (by omega)
      rw [H2.out] at c4
      have C4 := Lib.hid c4
      clear c4 g2
      go_wp2_with fail
      refine C4.out.mono ?_
      rintro e w' ⟨rfl, rfl⟩
      have c5 := Lib.hid (clone_any r w2 (by omega))
      go_wp2_with fail
      refine c5.out.mono ?_
      rintro e w3 ⟨rfl, b3⟩
      go_wp2
      (try simp only [Exit.inBlock, Exit.then]); refine bodyPost_ret (results_tmp4 rfl _ _ _) rfl ?_
      exact ⟨A2, n2, k2, r, rfl, HR.out, (G2.out.after b1).later b3⟩
  · rw [if_neg h1] at h
    rw [Bool.not_eq_true] at h1
    injection h with e1 e2
    injection e2 with e2 e3
    injection e3 with e3 e4
    subst e1 e2 e3 e4
    go_enter Tryd.func37, Tryd.ntmps37
    go_wp2_with fail
    refine CD.out.mono ?_
    rintro e w1 ⟨a, r, rfl, ha, hr, b1⟩
    have hrs : r.size ≤ 500 := by rw [Lib.size_eq, hr]; exact hml
    have has' : a.size ≤ 500 := by rw [Lib.size_eq, ha]; exact hpl
    have c1 := areMid_any r w1 (by omega)
    rw [hr, h1] at c1
    have C1 := Lib.hid c1
    clear c1 ha hr CD h1
    go_wp2_with fail
    refine C1.out.mono ?_
    rintro e w' ⟨rfl, rfl⟩
    go_wp2
    (try simp only [Exit.inBlock, Exit.then]); refine bodyPost_ret (results_tmp4 rfl _ _ _) rfl ?_
    exact ⟨none, 0, 0, _, rfl, rfl, (gives_nil w1).after b1⟩

end Go.Proofs.YtihfjkjbeeoanaaDoor.Ci
