/-
  What ground of the document's own answers returns at a control character.
-/
import Derived.Test.YtihfjkjbeeoanaaDoorRefGround
import Derived.Test.YtihfjkjbeeoanaaDoorProper
namespace Go.Proofs.YtihfjkjbeeoanaaDoor
open Go.RowKit

theorem made_at (w : World) (k : Nat) (hk : k = w.heap.size) : OutE w (w.alloc (.cells #[] 33)) (.slice (some ⟨k, 0, none⟩) 0 0) [] := by
  subst hk
  exact OutE.made w
theorem one_at (w0 w : World) (g : G) (k : Nat) (hk : k = w.heap.size) (hb : Below w0.heap.size w0 w) (hp : Par w w0.heap.size none g) (cs : Array Value) (hcs : g.cells.toArray = cs) : OutE w0 (w.alloc (.cells cs 33)) (.slice (some ⟨k, 0, none⟩) 1 1) [g.e] := by
  subst hk
  exact OutE.one w0 w g hb hp cs hcs
theorem ended_shown {pe : List UInt8} (h : U8.Opened pe) : Vt.prints (U8.ended pe) = if pe = [] then [] else [Vt.prt 65533] := by
  rw [U8.ended_opened h]
  split <;> rfl

set_option maxHeartbeats 4000000 in
set_option maxRecDepth 100000 in
theorem refground_ctl (p : Vt.P) (b : UInt8) (w : World) (h1 : Vt.isCtl b = true) (ho : U8.Opened p.pe) :
    Calls Tryd.prog 14 #[.agg #[.int .i64 p.st, .string (ba p.pe), .string (ba p.bu)], .int .u8 (b.toNat : Int)] w (Gone w (Vt.ground p.pe b).1 (Vt.ground p.pe b).2) := by
  obtain ⟨R, hR⟩ : ∃ R, Vt.ground p.pe b = R := ⟨_, rfl⟩
  rw [hR]
  unfold Vt.ground at hR
  rw [if_pos h1, ended_shown ho] at hR
  obtain ⟨st, pe, bu⟩ := p
  have hbb : b.toNat < 32 ∨ b.toNat = 127 := by
    unfold Vt.isCtl at h1
    simpa only [Bool.or_eq_true, decide_eq_true_eq] using h1
  have he := isEmpty_ba pe
  have F := Lib.hid (Bg.start w ⟨st, pe, bu⟩)
  have HM : Hid (OutE (begun w ⟨st, pe, bu⟩ Vt.zero) (((w.alloc (.cells #[.int .i64 st, .string (ba pe), .string (ba bu)] 23)).alloc (.cells #[.int .i64 0, .string ⟨#[]⟩, .string ⟨#[]⟩] 23)).alloc (.cells #[] 33)) (.slice (some ⟨w.heap.size + 1 + 1, 0, none⟩) 0 0) []) := Lib.hid (made_at (begun w ⟨st, pe, bu⟩ Vt.zero) (w.heap.size + 1 + 1) (by rw [begun_size]))
  simp only at hR ⊢
  clear h1 ho
  by_cases hpe : pe = []
  · by_cases hb : b.toNat = 24
    · have hc : Vt.control Vt.zero b = (Vt.zero, []) := by unfold Vt.control; rw [if_neg (by omega), if_pos (.inl hb)]
      rw [hc] at hR
      clear hc
      rw [if_pos hpe] at hR
      subst hR
      rw [hb]
      clear hb hbb
      have hq : pe.isEmpty = true := by rw [hpe]; rfl
      rw [hq] at he
      clear hq
      clear hpe
      go_enter Tryd.func14, Tryd.ntmps14
      go_wp2
      refine bodyPost_ret (res_two rfl _ _ _ Vt.zero rfl (begun_one_res w ⟨st, pe, bu⟩ Vt.zero _)) rfl ⟨_, _, _, rfl, ?_⟩
      exact (made_at (begun w ⟨st, pe, bu⟩ Vt.zero) _ (by rw [begun_size])).rebase (begun_low w _ _)
    · have h24 := hb
      clear hb
      by_cases hb : b.toNat = 26
      · have hc : Vt.control Vt.zero b = (Vt.zero, []) := by unfold Vt.control; rw [if_neg (by omega), if_pos (.inr hb)]
        rw [hc] at hR
        clear hc
        rw [if_pos hpe] at hR
        subst hR
        rw [hb]
        clear hb hbb
        have hq : pe.isEmpty = true := by rw [hpe]; rfl
        rw [hq] at he
        clear hq
        clear hpe
        go_enter Tryd.func14, Tryd.ntmps14
        go_wp2
        refine bodyPost_ret (res_two rfl _ _ _ Vt.zero rfl (begun_one_res w ⟨st, pe, bu⟩ Vt.zero _)) rfl ⟨_, _, _, rfl, ?_⟩
        exact (made_at (begun w ⟨st, pe, bu⟩ Vt.zero) _ (by rw [begun_size])).rebase (begun_low w _ _)
      · have h26 := hb
        clear hb
        by_cases hb : b.toNat = 127
        · have hc : Vt.control Vt.zero b = (Vt.zero, []) := by unfold Vt.control; rw [if_neg (by omega), if_neg (by omega), if_pos hb]
          rw [hc] at hR
          clear hc
          rw [if_pos hpe] at hR
          subst hR
          rw [hb]
          clear hb hbb
          have hq : pe.isEmpty = true := by rw [hpe]; rfl
          rw [hq] at he
          clear hq
          clear hpe
          go_enter Tryd.func14, Tryd.ntmps14
          go_wp2
          refine bodyPost_ret (res_two rfl _ _ _ Vt.zero rfl (begun_one_res w ⟨st, pe, bu⟩ Vt.zero _)) rfl ⟨_, _, _, rfl, ?_⟩
          exact (made_at (begun w ⟨st, pe, bu⟩ Vt.zero) _ (by rw [begun_size])).rebase (begun_low w _ _)
        · have h127 := hb
          clear hb
          by_cases hb : b.toNat = 27
          · have hc : Vt.control Vt.zero b = (Vt.inEsc, []) := by unfold Vt.control; rw [if_pos hb]
            rw [hc] at hR
            clear hc
            rw [if_pos hpe] at hR
            subst hR
            rw [hb]
            clear hb hbb
            have hq : pe.isEmpty = true := by rw [hpe]; rfl
            rw [hq] at he
            clear hq
            clear hpe
            go_enter Tryd.func14, Tryd.ntmps14
            go_wp2
            refine bodyPost_ret (res_two rfl _ _ _ Vt.inEsc rfl (begun_one_res w ⟨st, pe, bu⟩ Vt.inEsc _)) rfl ⟨_, _, _, rfl, ?_⟩
            exact (made_at (begun w ⟨st, pe, bu⟩ Vt.inEsc) _ (by rw [begun_size])).rebase (begun_low w _ _)
          · have h27 := hb
            clear hb
            have hc : Vt.control Vt.zero b = (Vt.zero, [Vt.ctl b]) := by unfold Vt.control; rw [if_neg h27, if_neg (by omega), if_neg h127]
            rw [hc] at hR
            clear hc
            rw [if_pos hpe] at hR
            subst hR
            have z1 : ((b.toNat : Int) == 24) = false := by simp; omega
            have z2 : ((b.toNat : Int) == 26) = false := by simp; omega
            have z3 : ((b.toNat : Int) == 127) = false := by simp; omega
            have z4 : ((b.toNat : Int) == 27) = false := by simp; omega
            have z5 : ¬ (32 : Int) ≤ (b.toNat : Int) := by omega
            clear h24 h26 h27 h127 hbb
            have hq : pe.isEmpty = true := by rw [hpe]; rfl
            rw [hq] at he
            clear hq
            clear hpe
            go_enter Tryd.func14, Tryd.ntmps14
            go_wp2_with (at_builtin; refine wpList_joinE rfl (.tmp 76) (.tmp 79) rfl (begun w ⟨st, pe, bu⟩ Vt.zero) _ _ _ _ [Vt.ctl b] _ 1 1 rfl rfl HM.out (one_at _ _ ⟨Vt.ctl b, none, 0, 0⟩ _ (by simp) (Below.refl _ _) (Par.none rfl rfl) _ rfl) (by simp) ?_; intro A3 n3 c3 w3 hO3; have F2 := Lib.hid (F.out.below hO3.out.low); have y0 := F2.out.2.1.z 0; have y1 := F2.out.2.1.z 1; have y2 := F2.out.2.1.z 2; have x0 := F2.out.2.1.c0; have x1 := F2.out.2.1.c1; have x2 := F2.out.2.1.c2)
            refine bodyPost_ret (res_two rfl _ _ _ Vt.zero rfl (F2.out.2.1.all Vt.zero)) rfl ⟨A3, n3, c3, rfl, ?_⟩
            exact OutE.fill F.out hO3.out _ _ _
  · by_cases hb : b.toNat = 24
    · have hc : Vt.control Vt.zero b = (Vt.zero, []) := by unfold Vt.control; rw [if_neg (by omega), if_pos (.inl hb)]
      rw [hc] at hR
      clear hc
      rw [if_neg hpe] at hR
      subst hR
      rw [hb]
      clear hb hbb
      have hq : pe.isEmpty = false := by
        cases pe with
        | nil => exact absurd rfl hpe
        | cons a l => rfl
      rw [hq] at he
      clear hq
      clear hpe
      go_enter Tryd.func14, Tryd.ntmps14
      go_wp2_with (at_builtin; refine wpList_joinE rfl (.tmp 60) (.tmp 62) rfl (begun w ⟨st, pe, bu⟩ Vt.zero) _ _ _ _ [Vt.prt 65533] _ 1 1 rfl rfl HM.out (one_at _ _ ⟨Vt.prt 65533, none, 0, 0⟩ _ (by simp) (Below.refl _ _) (Par.none rfl rfl) _ rfl) (by decide) ?_; intro A2 n2 c2 w2 hO2; have F2 := Lib.hid (F.out.below hO2.out.low); have y0 := F2.out.2.1.z 0; have y1 := F2.out.2.1.z 1; have y2 := F2.out.2.1.z 2; have x0 := F2.out.2.1.c0; have x1 := F2.out.2.1.c1; have x2 := F2.out.2.1.c2)
      refine bodyPost_ret (res_two rfl _ _ _ Vt.zero rfl (F2.out.2.1.all Vt.zero)) rfl ⟨A2, n2, c2, rfl, ?_⟩
      exact OutE.fill F.out hO2.out _ _ _
    · have h24 := hb
      clear hb
      by_cases hb : b.toNat = 26
      · have hc : Vt.control Vt.zero b = (Vt.zero, []) := by unfold Vt.control; rw [if_neg (by omega), if_pos (.inr hb)]
        rw [hc] at hR
        clear hc
        rw [if_neg hpe] at hR
        subst hR
        rw [hb]
        clear hb hbb
        have hq : pe.isEmpty = false := by
          cases pe with
          | nil => exact absurd rfl hpe
          | cons a l => rfl
        rw [hq] at he
        clear hq
        clear hpe
        go_enter Tryd.func14, Tryd.ntmps14
        go_wp2_with (at_builtin; refine wpList_joinE rfl (.tmp 60) (.tmp 62) rfl (begun w ⟨st, pe, bu⟩ Vt.zero) _ _ _ _ [Vt.prt 65533] _ 1 1 rfl rfl HM.out (one_at _ _ ⟨Vt.prt 65533, none, 0, 0⟩ _ (by simp) (Below.refl _ _) (Par.none rfl rfl) _ rfl) (by decide) ?_; intro A2 n2 c2 w2 hO2; have F2 := Lib.hid (F.out.below hO2.out.low); have y0 := F2.out.2.1.z 0; have y1 := F2.out.2.1.z 1; have y2 := F2.out.2.1.z 2; have x0 := F2.out.2.1.c0; have x1 := F2.out.2.1.c1; have x2 := F2.out.2.1.c2)
        refine bodyPost_ret (res_two rfl _ _ _ Vt.zero rfl (F2.out.2.1.all Vt.zero)) rfl ⟨A2, n2, c2, rfl, ?_⟩
        exact OutE.fill F.out hO2.out _ _ _
      · have h26 := hb
        clear hb
        by_cases hb : b.toNat = 127
        · have hc : Vt.control Vt.zero b = (Vt.zero, []) := by unfold Vt.control; rw [if_neg (by omega), if_neg (by omega), if_pos hb]
          rw [hc] at hR
          clear hc
          rw [if_neg hpe] at hR
          subst hR
          rw [hb]
          clear hb hbb
          have hq : pe.isEmpty = false := by
            cases pe with
            | nil => exact absurd rfl hpe
            | cons a l => rfl
          rw [hq] at he
          clear hq
          clear hpe
          go_enter Tryd.func14, Tryd.ntmps14
          go_wp2_with (at_builtin; refine wpList_joinE rfl (.tmp 60) (.tmp 62) rfl (begun w ⟨st, pe, bu⟩ Vt.zero) _ _ _ _ [Vt.prt 65533] _ 1 1 rfl rfl HM.out (one_at _ _ ⟨Vt.prt 65533, none, 0, 0⟩ _ (by simp) (Below.refl _ _) (Par.none rfl rfl) _ rfl) (by decide) ?_; intro A2 n2 c2 w2 hO2; have F2 := Lib.hid (F.out.below hO2.out.low); have y0 := F2.out.2.1.z 0; have y1 := F2.out.2.1.z 1; have y2 := F2.out.2.1.z 2; have x0 := F2.out.2.1.c0; have x1 := F2.out.2.1.c1; have x2 := F2.out.2.1.c2)
          refine bodyPost_ret (res_two rfl _ _ _ Vt.zero rfl (F2.out.2.1.all Vt.zero)) rfl ⟨A2, n2, c2, rfl, ?_⟩
          exact OutE.fill F.out hO2.out _ _ _
        · have h127 := hb
          clear hb
          by_cases hb : b.toNat = 27
          · have hc : Vt.control Vt.zero b = (Vt.inEsc, []) := by unfold Vt.control; rw [if_pos hb]
            rw [hc] at hR
            clear hc
            rw [if_neg hpe] at hR
            subst hR
            rw [hb]
            clear hb hbb
            have hq : pe.isEmpty = false := by
              cases pe with
              | nil => exact absurd rfl hpe
              | cons a l => rfl
            rw [hq] at he
            clear hq
            clear hpe
            go_enter Tryd.func14, Tryd.ntmps14
            go_wp2_with (at_builtin; refine wpList_joinE rfl (.tmp 60) (.tmp 62) rfl (begun w ⟨st, pe, bu⟩ Vt.zero) _ _ _ _ [Vt.prt 65533] _ 1 1 rfl rfl HM.out (one_at _ _ ⟨Vt.prt 65533, none, 0, 0⟩ _ (by simp) (Below.refl _ _) (Par.none rfl rfl) _ rfl) (by decide) ?_; intro A2 n2 c2 w2 hO2; have F2 := Lib.hid (F.out.below hO2.out.low); have y0 := F2.out.2.1.z 0; have y1 := F2.out.2.1.z 1; have y2 := F2.out.2.1.z 2; have x0 := F2.out.2.1.c0; have x1 := F2.out.2.1.c1; have x2 := F2.out.2.1.c2)
            refine bodyPost_ret (res_two rfl _ _ _ Vt.inEsc rfl (F2.out.2.1.all Vt.inEsc)) rfl ⟨A2, n2, c2, rfl, ?_⟩
            exact OutE.fill F.out hO2.out _ _ _
          · have h27 := hb
            clear hb
            have hc : Vt.control Vt.zero b = (Vt.zero, [Vt.ctl b]) := by unfold Vt.control; rw [if_neg h27, if_neg (by omega), if_neg h127]
            rw [hc] at hR
            clear hc
            rw [if_neg hpe] at hR
            subst hR
            have z1 : ((b.toNat : Int) == 24) = false := by simp; omega
            have z2 : ((b.toNat : Int) == 26) = false := by simp; omega
            have z3 : ((b.toNat : Int) == 127) = false := by simp; omega
            have z4 : ((b.toNat : Int) == 27) = false := by simp; omega
            have z5 : ¬ (32 : Int) ≤ (b.toNat : Int) := by omega
            clear h24 h26 h27 h127 hbb
            have hq : pe.isEmpty = false := by
              cases pe with
              | nil => exact absurd rfl hpe
              | cons a l => rfl
            rw [hq] at he
            clear hq
            clear hpe
            go_enter Tryd.func14, Tryd.ntmps14
            go_wp2_with (first | (at_builtin; refine wpList_joinE rfl (.tmp 60) (.tmp 62) rfl (begun w ⟨st, pe, bu⟩ Vt.zero) _ _ _ _ [Vt.prt 65533] _ 1 1 rfl rfl HM.out (one_at _ _ ⟨Vt.prt 65533, none, 0, 0⟩ _ (by simp) (Below.refl _ _) (Par.none rfl rfl) _ rfl) (by decide) ?_; intro A2 n2 c2 w2 hO2; have F2 := Lib.hid (F.out.below hO2.out.low); have y0 := F2.out.2.1.z 0; have y1 := F2.out.2.1.z 1; have y2 := F2.out.2.1.z 2; have x0 := F2.out.2.1.c0; have x1 := F2.out.2.1.c1; have x2 := F2.out.2.1.c2) | (at_builtin; refine wpList_joinE rfl (.tmp 76) (.tmp 79) rfl (begun w ⟨st, pe, bu⟩ Vt.zero) _ _ _ _ [Vt.ctl b] _ 1 1 rfl rfl hO2.out (one_at _ _ ⟨Vt.ctl b, none, 0, 0⟩ _ (by simp) (Below.refl _ _) (Par.none rfl rfl) _ rfl) (by simp) ?_; intro A3 n3 c3 w3 hO3; clear y0 y1 y2 x0 x1 x2; have F2 := Lib.hid (F.out.below hO3.out.low); have y0 := F2.out.2.1.z 0; have y1 := F2.out.2.1.z 1; have y2 := F2.out.2.1.z 2; have x0 := F2.out.2.1.c0; have x1 := F2.out.2.1.c1; have x2 := F2.out.2.1.c2))
            refine bodyPost_ret (res_two rfl _ _ _ Vt.zero rfl (F2.out.2.1.all Vt.zero)) rfl ⟨A3, n3, c3, rfl, ?_⟩
            exact OutE.fill F.out hO3.out _ _ _

end Go.Proofs.YtihfjkjbeeoanaaDoor
