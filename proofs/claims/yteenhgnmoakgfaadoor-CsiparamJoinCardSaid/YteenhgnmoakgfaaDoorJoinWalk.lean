/-
  The statement on parameters that are joined by a semicolon returns true, for all arguments.
-/
import Derived.Test.YteenhgnmoakgfaaDoorSyntaxWalk
import Derived.Test.YteenhgnmoakgfaaDoorDigits
import Derived.Deep.DeepFit
import Derived.Deep.DeepMust
import Derived.Deep.DeepCutAuto
namespace Go.Proofs.YteenhgnmoakgfaaDoor
open Go.RowKit Go.Shelf

/-- Whether a string is empty or consists of parameter bytes. -/
theorem all_empty (s : ByteArray) (h : s.toList.isEmpty = true) : s.data.toList = [] := by
  rw [empty_iff] at h
  simpa using h

/-- A list that reads as ps, unless q. -/
def Lst (W : World) (A : Option Addr) (n c : Nat) (q : Bool) (ps : List Int) : Prop := (q = false → Nums W W.heap.size A n ps ∧ (A = none → n = 0 ∧ c = 0)) ∧ n ≤ 1000
theorem Lst.below {W W' : World} {A : Option Addr} {n c : Nat} {q : Bool} {ps : List Int} (h : Lst W A n c q ps) (hb : Below W.heap.size W W') : Lst W' A n c q ps :=
  ⟨fun e => ⟨((h.1 e).1.below hb (Nat.le_refl _)).more hb.size, (h.1 e).2⟩, h.2⟩
/-- What Parse of parameter bytes gives, in one word. -/
theorem part_parse (l : List UInt8) (h : l.all Cp.isPar = true) (hl : l.length ≤ 200) :
    ∃ ps er, Cp.parse l = (0, ps, [], er) ∧ er = (if Cp.over (Cp.part l) [] then 5 else 0) ∧ (Cp.over (Cp.part l) [] = false → l ≠ [] → ps = Cp.part l) ∧ ps.length ≤ 1000 := by
  have hp := Cp.parse_par l h
  rw [Cp.over_part] at hp
  have hv : (Cp.vals l).length ≤ 1000 := by
    unfold Cp.vals
    split
    · simp
    · have := Cp.vs_len (-1) l
      omega
  cases hq : Cp.over (Cp.part l) []
  · rw [hq] at hp
    exact ⟨_, _, hp, rfl, fun _ hn => by rw [Cp.part_vals, if_neg hn], hv⟩
  · rw [hq] at hp
    exact ⟨_, _, hp, rfl, fun h => (by cases h), by simp⟩
/-- A list with the one element -1 that was just laid. -/
theorem lst_laid (W : World) (l : List UInt8) (q : Bool) (h : l = []) : Lst (W.alloc (.cells #[.int .i64 (-1)] 3)) (some ⟨W.heap.size, 0, none⟩) 1 1 q (Cp.part l) := by
  subst h
  refine ⟨fun _ => ⟨?_, (fun e => by cases e)⟩, by omega⟩
  exact (nums_new W [-1] 3 1 rfl _ rfl).more (by simp)

set_option maxHeartbeats 2000000 in
set_option maxRecDepth 100000 in
theorem join_walk (a b : ByteArray) (w : World) (ha : a.size ≤ 140737488351232) (hb : b.size ≤ 140737488351232) (hP : Pw w) :
    Calls Tryd.prog 7 #[.string a, .string b] w fun e w' => e = .returned (.bool true) ∧ Below w.heap.size w w' := by
  obtain ⟨q, hq⟩ : ∃ q, (decide (200 < a.size + b.size) || !a.data.toList.all Cp.isPar || !b.data.toList.all Cp.isPar) = q := ⟨_, rfl⟩
  have HQ := Lib.hid hq
  clear hq
  go_enter Tryd.func7, Tryd.ntmps7
  go_upto_region 1 with fail
  go_cut [40] (fun t wx => t = .bool q ∧ Below w.heap.size w wx)
  case first =>
    have hq := HQ.out
    by_cases hbig : 200 < a.size + b.size
    · have hbz : (200 : Int) < (a.size : Int) + (b.size : Int) := by omega
      rw [decide_eq_true hbig] at hq
      obtain rfl : q = true := by rw [← hq]; rfl
      clear hq
      go_wp2
      go_meet
      exact ⟨rfl, Below.refl _ _⟩
    · have hbz : ¬ (200 : Int) < (a.size : Int) + (b.size : Int) := by omega
      rw [decide_eq_false hbig, Bool.false_or] at hq
      cases hea : a.toList.isEmpty
      · have c1 := digits_any a w (by omega) hea
        generalize a.data.toList.all Cp.isPar = qa at c1 hq
        have C1 := Lib.hid c1
        clear c1
        cases qa
        · obtain rfl : q = true := by rw [← hq]; rfl
          clear hq
          go_wp2_with fail
          refine C1.out.mono ?_
          rintro e w1 ⟨rfl, b1⟩
          go_wp2
          go_meet
          exact ⟨rfl, b1⟩
        · rw [Bool.not_true, Bool.false_or] at hq
          cases heb : b.toList.isEmpty
          · have c2 := fun W => digits_any b W (by omega) heb
            have C2 : Hid (b.data.toList.all Cp.isPar = !q) := Lib.hid (by rw [← hq, Bool.not_not])
            rw [C2.out] at c2
            have C2 := Lib.hid c2
            clear c2 hq
            go_wp2_with fail
            refine C1.out.mono ?_
            rintro e w1 ⟨rfl, b1⟩
            go_wp2_with fail
            refine (C2.out w1).mono ?_
            rintro e w2 ⟨rfl, b2⟩
            go_wp2
            go_meet
            exact ⟨by simp, b1.trans (b2.mono b1.size)⟩
          · rw [all_empty b heb] at hq
            obtain rfl : q = false := by rw [← hq]; rfl
            clear hq
            go_wp2_with fail
            refine C1.out.mono ?_
            rintro e w1 ⟨rfl, b1⟩
            go_wp2
            go_meet
            exact ⟨rfl, b1⟩
      · rw [all_empty a hea] at hq
        have hq' : (!b.data.toList.all Cp.isPar) = q := by rw [← hq]; rfl
        clear hq
        cases heb : b.toList.isEmpty
        · have c2 := digits_any b w (by omega) heb
          have C2 : Hid (b.data.toList.all Cp.isPar = !q) := Lib.hid (by rw [← hq', Bool.not_not])
          rw [C2.out] at c2
          have C2 := Lib.hid c2
          clear c2 hq'
          go_wp2_with fail
          refine C2.out.mono ?_
          rintro e w2 ⟨rfl, b2⟩
          go_wp2
          go_meet
          exact ⟨by simp, b2⟩
        · rw [all_empty b heb] at hq'
          obtain rfl : q = false := by rw [← hq']; rfl
          clear hq'
          go_wp2
          go_meet
          exact ⟨rfl, Below.refl _ _⟩
  case rest =>
    obtain ⟨rfl, b1⟩ := hcut
    have P1 := hP.below b1
    cases q
    · have hq := HQ.out
      rw [Bool.or_eq_false_iff, Bool.or_eq_false_iff] at hq
      have hz : a.size + b.size ≤ 200 := by have := hq.1.1; simp at this; omega
      have haa : a.data.toList.all Cp.isPar = true := by have := hq.1.2; simpa using this
      have hba : b.data.toList.all Cp.isPar = true := by have := hq.2; simpa using this
      have hla := Lib.size_eq a
      have hlb := Lib.size_eq b
      obtain ⟨pa, ea, hpa, hea, hva, hna⟩ := part_parse _ haa (by omega)
      obtain ⟨pb, eb, hpb, heb, hvb, hnb⟩ := part_parse _ hba (by omega)
      obtain ⟨hja, hjv⟩ := Cp.join_par _ _ haa hba
      have hpj := Cp.parse_par _ hja
      rw [hjv, Cp.over_app] at hpj
      obtain ⟨s, hs⟩ : ∃ s : ByteArray, a ++ ⟨#[59]⟩ ++ b = s := ⟨_, rfl⟩
      have hsd : s.data.toList = a.data.toList ++ 59 :: b.data.toList := by
        rw [← hs]
        simp only [app_bytes]
        simp
      have hsz : s.size ≤ 500 := by
        rw [Lib.size_eq, hsd]
        simp only [List.length_append, List.length_cons]
        omega
      rw [← hsd] at hpj
      have hoa := fun h => Cp.over_le (ps := Cp.part a.data.toList) (i := []) h
      have hob := fun h => Cp.over_le (ps := Cp.part b.data.toList) (i := []) h
      obtain ⟨qa, hqa⟩ : ∃ qa, Cp.over (Cp.part a.data.toList) [] = qa := ⟨_, rfl⟩
      obtain ⟨qb, hqb⟩ : ∃ qb, Cp.over (Cp.part b.data.toList) [] = qb := ⟨_, rfl⟩
      rw [hqa] at hea hva hpj hoa
      rw [hqb] at heb hvb hpj hob
      obtain ⟨qea, hqea⟩ : ∃ q, a.toList.isEmpty = q := ⟨_, rfl⟩
      obtain ⟨qeb, hqeb⟩ : ∃ q, b.toList.isEmpty = q := ⟨_, rfl⟩
      have EMA : Hid (qea = decide (a.data.toList = [])) := Lib.hid (by rw [← hqea]; exact empty_iff a)
      have EMB : Hid (qeb = decide (b.data.toList = [])) := Lib.hid (by rw [← hqeb]; exact empty_iff b)
      have c1 := Lib.hid (fun W => parse_any a W (by omega) hpa)
      have c2 := Lib.hid (fun W => parse_any b W (by omega) hpb)
      have HEA := Lib.hid hea
      have HEB := Lib.hid heb
      have HVA := Lib.hid hva
      have HVB := Lib.hid hvb
      have HPJ := Lib.hid hpj
      have HOA := Lib.hid hoa
      have HOB := Lib.hid hob
      have n1 : ¬ 9223372036854775807 < a.size + 1 := by omega
      have n2 : ¬ 9223372036854775807 < a.size + 1 + b.size := by omega
      clear hla hlb hpa hpb hea heb hva hvb hja hjv hpj hqa hqb hoa hob haa hba hq HQ hsd
      go_wp2_with fail
      refine (c1.out wc).mono ?_
      rintro e w2 ⟨A2, k2, m2, t2, rfl, ht2, g2⟩
      have b2 := b1.trans (g2.2.2.mono b1.size)
      have P2 := P1.below g2.2.2
      have hk2 : k2 ≤ 1000 := by rw [g2.length]; exact hna
      have G2 := Lib.hid g2
      clear g2 ht2 c1 b1 P1
      go_wp2_with fail
      refine (c2.out w2).mono ?_
      rintro e w3 ⟨A3, k3, m3, t3, rfl, ht3, g3⟩
      have b3 := b2.trans (g3.2.2.mono b2.size)
      have P3 := P2.below g3.2.2
      have hk3 : k3 ≤ 1000 := by rw [g3.length]; exact hnb
      have G3 := Lib.hid g3
      have G2' := Lib.hid (G2.out.later g3.2.2)
      clear g3 ht3 c2 b2 P2 G2
      go_upto_if 57 with fail
      go_cut [6] (fun v wx => ∃ A n c, v = .slice A n c ∧ Aside (Lst wx A n c qa (Cp.part a.data.toList) ∧ Below w3.heap.size w3 wx))
      case first =>
        cases qea
        · have hne : a.data.toList ≠ [] := by simpa using EMA.out.symm
          have hL : Lst w3 A2 k2 m2 qa (Cp.part a.data.toList) := ⟨fun e => ⟨by rw [← HVA.out e hne]; exact G2'.out.1, G2'.out.2.1⟩, hk2⟩
          have HL := Lib.hid hL
          clear hL hne
          go_wp2
          go_meet
          exact ⟨_, _, _, rfl, HL.out, Below.refl _ _⟩
        · have hem : a.data.toList = [] := by simpa using EMA.out.symm
          have HL := Lib.hid (lst_laid w3 _ qa hem)
          clear hem
          go_wp2
          go_meet
          exact ⟨_, _, _, rfl, HL.out, (Below.refl _ _).alloc (Nat.le_refl _) _⟩
      case rest =>
        obtain ⟨A4, k4, m4, rfl, hA4⟩ := hcut
        have b4 := hA4.out.2
        have L4 := Lib.hid hA4.out.1
        have P4 := P3.below b4
        have B4 := Lib.hid (b3.trans (b4.mono b3.size))
        have G4 := Lib.hid (G3.out.later b4)
        generalize wc = w4 at b4 L4 P4 B4 G4 hA4 ⊢
        clear hA4 b4 b3 P3 G3 G2' HVA EMA hqea
        go_upto_if 60 with fail
        go_cut [10] (fun v wx => ∃ A n c, v = .slice A n c ∧ Aside (Lst wx A n c qb (Cp.part b.data.toList) ∧ Below w4.heap.size w4 wx))
        case first =>
          cases qeb
          · have hne : b.data.toList ≠ [] := by simpa using EMB.out.symm
            have hL : Lst w4 A3 k3 m3 qb (Cp.part b.data.toList) := ⟨fun e => ⟨by rw [← HVB.out e hne]; exact G4.out.1, G4.out.2.1⟩, hk3⟩
            have HL := Lib.hid hL
            clear hL hne
            go_wp2
            go_meet
            exact ⟨_, _, _, rfl, HL.out, Below.refl _ _⟩
          · have hem : b.data.toList = [] := by simpa using EMB.out.symm
            have HL := Lib.hid (lst_laid w4 _ qb hem)
            clear hem
            go_wp2
            go_meet
            exact ⟨_, _, _, rfl, HL.out, (Below.refl _ _).alloc (Nat.le_refl _) _⟩
        case rest =>
          obtain ⟨A5, k5, m5, rfl, hA5⟩ := hcut
          have b5 := hA5.out.2
          have L5 := Lib.hid hA5.out.1
          have P5 := P4.below b5
          have B5 := Lib.hid (B4.out.trans (b5.mono B4.out.size))
          have L4' := Lib.hid (L4.out.below b5)
          generalize wc = w5 at b5 L5 P5 B5 L4' hA5 ⊢
          clear hA5 b5 B4 P4 G4 L4 HVB EMB hqeb
          have hpj := HPJ.out
          have hk4 := L4'.out.2
          have hk5 := L5.out.2
          cases qa
          · cases qb
            · have la := (L4'.out.1 rfl)
              have lb := (L5.out.1 rfl)
              have e4 : (Cp.part a.data.toList).length = k4 := la.1.1
              have e5 : (Cp.part b.data.toList).length = k5 := lb.1.1
              rw [e4, e5] at hpj
              obtain rfl : ea = 0 := HEA.out
              obtain rfl : eb = 0 := HEB.out
              have HLA := Lib.hid la
              have HLB := Lib.hid lb
              by_cases h16 : 16 < k4 + k5
              · have h16z : (16 : Int) < (k4 : Int) + (k5 : Int) := by omega
                rw [decide_eq_true h16] at hpj
                have hp3 : Cp.parse s.data.toList = (0, [], [], 5) := hpj
                have c3 := Lib.hid (fun W => parse_any s W hsz hp3)
                clear hpj hp3 HPJ la lb e4 e5 HEA HEB
                go_wp2_with fail
                refine (c3.out w5).mono ?_
                rintro e w6 ⟨A6, k6, m6, t6, rfl, ht6, g6⟩
                have b6 := B5.out.trans (g6.2.2.mono B5.out.size)
                have cA := Lib.hid (awake_true w6 (P5.below g6.2.2))
                clear ht6 g6 c3
                go_wp2_with fail
                refine cA.out.mono ?_
                rintro e w7 ⟨rfl, b7⟩
                go_wp2
                go_ret
                exact ⟨rfl, b6.trans (b7.mono b6.size)⟩
              · have h16z : ¬ (16 : Int) < (k4 : Int) + (k5 : Int) := by omega
                rw [decide_eq_false h16] at hpj
                have hp3 : Cp.parse s.data.toList = (0, Cp.part a.data.toList ++ Cp.part b.data.toList, [], 0) := hpj
                have c3 := Lib.hid (fun W => parse_any s W hsz hp3)
                have H4 := Lib.hid e4
                have H5 := Lib.hid e5
                clear hpj hp3 HPJ la lb e4 e5 HEA HEB
                generalize Cp.part a.data.toList = xs at c3 HLA H4 L4' HOA
                generalize Cp.part b.data.toList = ys at c3 HLB H5 L5 HOB
                go_wp2_with fail
                refine (c3.out w5).mono ?_
                rintro e w6 ⟨A6, k6, m6, t6, rfl, ht6, g6⟩
                have b6 := g6.2.2
                have B6 := Lib.hid (B5.out.trans (b6.mono B5.out.size))
                have P6 := P5.below b6
                have G6 := Lib.hid g6.1
                have NA := Lib.hid ((HLA.out.1.below b6 (Nat.le_refl _)).more b6.size)
                have NB := Lib.hid ((HLB.out.1.below b6 (Nat.le_refl _)).more b6.size)
                have KA := Lib.hid HLA.out.2
                have KB := Lib.hid HLB.out.2
                clear ht6 g6 c3 b6 P5 B5 HLA HLB L4' L5
                go_wp2_with (first
                  | (at_builtin; refine wpList_guarded rfl ?_; refine wpList_join rfl (.tmp 95) (.tmp 96) rfl w6 _ _ [] xs A4 k4 m4 w6.heap.size rfl rfl (Out.laid w6) (NA.out.alloc (Nat.le_refl _) _) KA.out (by have := H4.out; simp; omega) ?_; intro v7 w7 hout7; rw [List.nil_append] at hout7)
                  | (at_builtin; refine wpList_guarded rfl ?_; refine wpList_join rfl (.tmp 97) (.tmp 98) rfl w6 _ _ xs ys A5 k5 m5 w6.heap.size rfl rfl hout7 (NB.out.below hout7.2 (Nat.le_refl _)) KB.out (by have := H4.out; have := H5.out; omega) ?_; intro v8 w8 hout8; obtain ⟨A8, n8, c8, hv8, N8⟩ := hout8.reads; subst hv8; clear hout7))
                refine (same_yes A6 A8 k6 n8 m6 c8 w6.heap.size w8.heap.size (xs ++ ys) w8 (by rw [List.length_append]; have := H4.out; have := H5.out; omega) (G6.out.below hout8.2 (Nat.le_refl _)) N8).mono ?_
                rintro e w9 ⟨rfl, b9⟩
                have b10 : Below w6.heap.size w6 w9 := hout8.2.trans (b9.mono hout8.2.size)
                have cA := Lib.hid (awake_true w9 (P6.below b10))
                have b11 := B6.out.trans (b10.mono B6.out.size)
                clear hout8 N8 b9
                go_wp2_with fail
                refine cA.out.mono ?_
                rintro e w10 ⟨rfl, b12⟩
                go_wp2
                go_ret
                exact ⟨rfl, b11.trans (b12.mono b11.size)⟩
            · have hp3 : Cp.parse s.data.toList = (0, [], [], 5) := hpj
              obtain rfl : ea = 0 := HEA.out
              obtain rfl : eb = 5 := HEB.out
              have c3 := Lib.hid (fun W => parse_any s W hsz hp3)
              clear hpj hp3 HPJ HEA HEB
              go_wp2_with fail
              refine (c3.out w5).mono ?_
              rintro e w6 ⟨A6, k6, m6, t6, rfl, ht6, g6⟩
              have b6 := B5.out.trans (g6.2.2.mono B5.out.size)
              have cA := Lib.hid (awake_true w6 (P5.below g6.2.2))
              clear ht6 g6 c3
              go_wp2_with fail
              refine cA.out.mono ?_
              rintro e w7 ⟨rfl, b7⟩
              go_wp2
              go_ret
              exact ⟨rfl, b6.trans (b7.mono b6.size)⟩
          · have hp3 : Cp.parse s.data.toList = (0, [], [], 5) := hpj
            obtain rfl : ea = 5 := HEA.out
            have c3 := Lib.hid (fun W => parse_any s W hsz hp3)
            clear hpj hp3 HPJ HEA
            go_wp2_with fail
            refine (c3.out w5).mono ?_
            rintro e w6 ⟨A6, k6, m6, t6, rfl, ht6, g6⟩
            have b6 := B5.out.trans (g6.2.2.mono B5.out.size)
            have cA := Lib.hid (awake_true w6 (P5.below g6.2.2))
            clear ht6 g6 c3
            go_wp2_with fail
            refine cA.out.mono ?_
            rintro e w7 ⟨rfl, b7⟩
            go_wp2
            go_ret
            exact ⟨rfl, b6.trans (b7.mono b6.size)⟩
    · have cA := Lib.hid (awake_true wc P1)
      clear HQ
      go_wp2_with fail
      refine cA.out.mono ?_
      rintro e w2 ⟨rfl, b2⟩
      go_wp2
      go_ret
      exact ⟨rfl, b1.trans (b2.mono b1.size)⟩

end Go.Proofs.YteenhgnmoakgfaaDoor
