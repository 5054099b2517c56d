/-
  What ground of the document's own answers returns.
-/
import Derived.Test.YtihfjkjbeeoanaaDoorRfMath
import Derived.Test.YtihfjkjbeeoanaaDoorRead4
namespace Go.Proofs.YtihfjkjbeeoanaaDoor
open Go.RowKit

theorem OutE.made (w : World) : OutE w (w.alloc (.cells #[] 33)) (.slice (some ⟨w.heap.size, 0, none⟩) 0 0) [] :=
  ⟨[], rfl, World.ownsRow_made w #[] 0 (Nat.le_refl _) (Nat.zero_le _) rfl, (fun g hg => by cases hg), (Below.refl _ _).alloc (Nat.le_refl _) _⟩
theorem take_shown (xs : List Int) (k : Nat) (hk : k < xs.length) : ((xs.take (k + 1)).filter Vt.shown).map Vt.prt = ((xs.take k).filter Vt.shown).map Vt.prt ++ (if Vt.shown (xs.getD k 0) then [Vt.prt (xs.getD k 0)] else []) := by
  have e : xs[k] = xs.getD k 0 := by simp [List.getD_eq_getElem?_getD, hk]
  rw [List.take_succ_eq_append_getElem hk, List.filter_append, List.map_append, e]
  generalize xs.getD k 0 = y
  congr 1
  cases h : Vt.shown y
  · simp [h]
  · simp [h]

set_option maxHeartbeats 2000000 in
set_option maxRecDepth 100000 in
theorem refground_text (p : Vt.P) (b : UInt8) (w : World) (h1 : Vt.isCtl b = false) (ho : U8.Opened p.pe) :
    Calls Tryd.prog 14 #[.agg #[.int .i64 p.st, .string (ba p.pe), .string (ba p.bu)], .int .u8 (b.toNat : Int)] w (Gone w (Vt.ground p.pe b).1 (Vt.ground p.pe b).2) := by
  obtain ⟨R, hR⟩ : ∃ R, Vt.ground p.pe b = R := ⟨_, rfl⟩
  rw [hR]
  unfold Vt.ground at hR
  rw [if_neg (by rw [h1]; decide)] at hR
  subst hR
  obtain ⟨st, pe, bu⟩ := p
  have hpl : pe.length ≤ 3 := U8.opened_length ho
  have hbb : 32 ≤ b.toNat ∧ b.toNat ≠ 127 := by
    unfold Vt.isCtl at h1
    simp only [Bool.or_eq_false_iff, decide_eq_false_iff_not] at h1
    omega
  have z32 : (32 : Int) ≤ (b.toNat : Int) := by omega
  have z127 : ((b.toNat : Int) != 127) = true := by rw [bne_iff_ne]; omega
  have hps := Vt.prints_shown (Vt.shown_all pe b ho hbb.1 hbb.2)
  have F := Lib.hid ((Bg.start w ⟨st, pe, bu⟩).below ((Below.refl _ _).alloc (Nat.le_refl _) (.cells #[.int .u8 (b.toNat : Int)] 5)))
  have CD := refdecode_any (ba pe) (ba [b]) ((begun w ⟨st, pe, bu⟩ Vt.zero).alloc (.cells #[.int .u8 (b.toNat : Int)] 5)) (by rw [ba_size, ba_size]; simp; omega)
  rw [ba_list, ba_list] at CD
  have hcv := u8_string (begun w ⟨st, pe, bu⟩ Vt.zero) (w.heap.size + 1 + 1) (by rw [begun_size]) b
  have e : begun w ⟨st, pe, bu⟩ Vt.zero = (w.alloc (.cells #[.int .i64 st, .string (ba pe), .string (ba bu)] 23)).alloc (.cells #[.int .i64 0, .string ⟨#[]⟩, .string ⟨#[]⟩] 23) := rfl
  rw [e] at hcv
  have hout := U8.run_out_le (pe ++ [b])
  have hlen : (pe ++ [b]).length = pe.length + 1 := by simp
  simp only at hps ⊢
  rw [hps]
  generalize U8.run (pe ++ [b]) = r at CD hout
  obtain ⟨o, k⟩ := r
  simp only at hout ⊢
  have CD := Lib.hid CD
  clear e hps hbb h1 ho
  generalize ba [b] = x at hcv CD
  go_enter Tryd.func14, Tryd.ntmps14
  go_wp2_with fail
  refine CD.out.mono ?_
  rintro e w1 ⟨A1, n1, c1, he, g1⟩
  have he : e = .returned (.tuple #[.slice A1 n1 c1, .string (ba k)]) := he
  subst he
  have F1 := Lib.hid (F.out.below g1.2)
  have HX := Lib.hid g1.nums.2
  have hn1 : n1 ≤ 1000 := by rw [g1.nums.1]; omega
  clear g1 CD hcv F hout hlen
  go_wp2
  go_loopg [8, 9] (n1 + 1) (fun gk v i wr => ∃ j : Nat, gk + j = n1 + 1 ∧ j ≤ n1 ∧ i = .int .i64 (j : Int) ∧ ∃ A' n' c', v = .slice A' n' c' ∧ Aside (OutE w1 wr (.slice A' n' c') (((o.take j).filter Vt.shown).map Vt.prt)))
  case atStart => exact ⟨0, by omega, Nat.zero_le _, rfl, _, _, _, rfl, OutE.made w1⟩
  case round =>
    obtain ⟨j, hg, hjn, rfl, A2, n2, c2, rfl, hO⟩ := hrel
    have hlx := Lib.hid HX.out.1
    have hll : (((o.take j).filter Vt.shown).map Vt.prt).length ≤ 1000 := by
      rw [List.length_map]
      have h1 := List.length_filter_le Vt.shown (o.take j)
      rw [List.length_take] at h1
      omega
    by_cases hlt : j < n1
    · obtain ⟨g', rfl⟩ : ∃ g', gk = g' + 1 := ⟨gk - 1, by omega⟩
      have hz : (j : Int) < (n1 : Int) := by omega
      have hz0 : (0 : Int) ≤ (j : Int) := by omega
      obtain ⟨bb, off, rfl, hb, hc0⟩ := HX.out.2 j hlt
      have hc := (hO.out.low.cell (p := ⟨bb, off + j, none⟩) hb).trans hc0
      have HT := Lib.hid (take_shown o j (by rw [hlx.out]; exact hlt))
      generalize o.getD j 0 = y at hc HT
      clear hc0
      by_cases h128 : y < 128
      · have hs : Vt.shown y = true := by unfold Vt.shown; rw [decide_eq_true h128]; rfl
        rw [hs] at HT
        clear hs
        go_wp2_with (at_builtin; refine wpList_joinE rfl (.tmp 45) (.tmp 51) rfl w1 _ _ _ _ [Vt.prt y] _ 1 1 rfl rfl hO.out (OutE.one _ _ ⟨Vt.prt y, none, 0, 0⟩ (Below.refl _ _) (Par.none rfl rfl) _ rfl) (by rw [List.length_singleton]; omega) ?_; intro A3 n3 c3 w3 hO3)
        go_roundg g'
        case measure => omega
        case rel => exact ⟨j + 1, by omega, by omega, by go_num, _, _, _, rfl, by rw [HT.out]; exact hO3⟩
      · by_cases h159 : 159 < y
        · have hs : Vt.shown y = true := by unfold Vt.shown; rw [decide_eq_true h159, Bool.or_true]
          rw [hs] at HT
          clear hs
          go_wp2_with (at_builtin; refine wpList_joinE rfl (.tmp 45) (.tmp 51) rfl w1 _ _ _ _ [Vt.prt y] _ 1 1 rfl rfl hO.out (OutE.one _ _ ⟨Vt.prt y, none, 0, 0⟩ (Below.refl _ _) (Par.none rfl rfl) _ rfl) (by rw [List.length_singleton]; omega) ?_; intro A3 n3 c3 w3 hO3)
          go_roundg g'
          case measure => omega
          case rel => exact ⟨j + 1, by omega, by omega, by go_num, _, _, _, rfl, by rw [HT.out]; exact hO3⟩
        · have hs : Vt.shown y = false := by unfold Vt.shown; rw [decide_eq_false h128, decide_eq_false h159]; rfl
          rw [hs] at HT
          clear hs
          go_wp2
          go_roundg g'
          case measure => omega
          case rel => exact ⟨j + 1, by omega, by omega, by go_num, _, _, _, rfl, by rw [HT.out]; simpa using hO⟩
    · have hz : ¬ (j : Int) < (n1 : Int) := by omega
      have htk : o.take j = o := List.take_of_length_le (by rw [hlx.out]; omega)
      rw [htk] at hO
      have F2 := Lib.hid (F1.out.below hO.out.low)
      have y0 := F2.out.2.1.z 0
      have y1 := F2.out.2.1.z 1
      have y2 := F2.out.2.1.z 2
      have x0 := F2.out.2.1.c0
      have x1 := F2.out.2.1.c1
      have x2 := F2.out.2.1.c2
      clear htk hll
      go_wp2
      refine bodyPost_ret (res_two rfl _ _ _ ⟨0, k, []⟩ rfl (F2.out.2.1.all ⟨0, k, []⟩)) rfl ⟨A2, n2, c2, rfl, ?_⟩
      exact OutE.fill F1.out hO.out _ _ _

end Go.Proofs.YtihfjkjbeeoanaaDoor
