/-
  The statement on Check and New and the document's own returns true.
-/
import Derived.Test.YtokeaoapcjlmkaaDoorGrProper
import Derived.Test.YtokeaoapcjlmkaaDoorGrRefNew
namespace Go.Proofs.YtokeaoapcjlmkaaDoor
open Go.RowKit Go.Shelf Cr Gd

theorem fine_sz {R : Res} {X Y : Int} (h : Fine R X Y) : Sz R.L := by
  rcases h with ⟨_, _, h3, _⟩ | ⟨_, _, _, h4, _⟩
  · rw [h3]; intro l hl; cases hl
  · obtain ⟨v, k, _, _, g⟩ := gE_good h4
    intro l hl
    have := g.2.2.2.2.2 l hl
    have := g.2.1
    omega
theorem fine_new (W H : Int) : Fine (newR W H) W H := by
  unfold newR
  split
  · rename_i h
    obtain ⟨a1, a2, a3, a4⟩ := h
    obtain ⟨v, rfl⟩ : ∃ v : Nat, W = (v : Int) := ⟨W.toNat, by omega⟩
    obtain ⟨n, rfl⟩ : ∃ n : Nat, H = (n : Int) := ⟨H.toNat, by omega⟩
    refine .inr ⟨rfl, rfl, rfl, ?_, ?_⟩
    · show gE (v : Int) (n : Int) (List.replicate _ _) = 0
      rw [Int.toNat_natCast, Int.toNat_natCast]
      refine good_gE ⟨by omega, by omega, by omega, by omega, List.length_replicate, fun l hl => ?_⟩
      rw [List.eq_of_mem_replicate hl]
      exact blank_good _ _
    · exact SmR.bl _ _ _
  · exact fine_bad (by decide) _ _

set_option maxHeartbeats 4000000 in
set_option maxRecDepth 100000 in
theorem checklaw_walk (W H : Int) (A : Option Addr) (n c : Nat) (L : List (List C)) (x y : Int) (w : World) (hr : RdR w A n L) (_hnc : n ≤ c) (hmax : n ≤ 9223372036854775807) (hT : Lib.Utf8Tabs 0 1 w) :
    Calls Tryd.prog 3 #[.agg #[.int .i64 W, .int .i64 H, .slice A n c], .int .i64 x, .int .i64 y] w fun e w' => e = .returned (.bool true) ∧ Below w.heap.size w w' := by
  obtain ⟨V, hV⟩ : ∃ V, w.alloc (.cells #[.int .i64 W, .int .i64 H, .slice A n c] 24) = V := ⟨_, rfl⟩
  have bV : Below w.heap.size w V := by rw [← hV]; exact (Below.refl _ _).alloc (Nat.le_refl _) _
  have k1 : Kg V w.heap.size W H A n c := by rw [← hV]; exact heap_alloc_new w _
  have K1 := Lib.hid k1
  have BV := Lib.hid bV
  have HR := Lib.hid (fun U (h : Below V.heap.size V U) => hr.below (bV.trans (h.mono bV.size)))
  have HT := Lib.hid (fun U (h : Below V.heap.size V U) => Utf8Tabs_below hT (bV.trans (h.mono bV.size)))
  have CG := Lib.hid (greatR_any A n c L V (hr.below bV))
  have CW := Lib.hid (fun U (hu : Below V.heap.size V U) => awake_true U (HT.out U hu))
  clear hr hT k1 bV
  cases hg : greatR L
  · rw [hg, if_neg (by decide)] at CG
    obtain ⟨hl10, hsm, hlen⟩ := greatR_false hg
    have CN := Lib.hid (fun U => new_any x y U)
    have CM := Lib.hid (fun U => (rnew_any x y U).mono fun e w' h => h.out2)
    have HF := Lib.hid (fine_new x y)
    generalize newR x y = R at CN CM HF
    have C1 := Lib.hid (fun U (hu : Below V.heap.size V U) => gcheck_any W H A n c L U (HR.out U hu) hmax hsm (HT.out U hu))
    have C2 := Lib.hid (fun U (hu : Below V.heap.size V U) => rcheck_any W H A n c L U (HR.out U hu) hmax hsm)
    generalize gE W H L = q at C1 C2
    have hqq : (((q : Nat) : Int) == ((q : Nat) : Int)) = true := beq_self_eq_true _
    have hee : (((R.E : Nat) : Int) == ((R.E : Nat) : Int)) = true := beq_self_eq_true _
    clear hg hl10 hsm hlen
    subst hV
    go_enter Tryd.func3, Tryd.ntmps3
    go_wp2_with fail
    refine CG.out.mono ?_
    rintro e' w1 ⟨rfl, rfl⟩
    clear CG
    go_wp2_with fail
    refine (CN.out _).mono ?_
    rintro e' w2 ⟨A2, n2, c2, rfl, g2, b2⟩
    have bx := (Below.refl w2.heap.size w2).alloc (Nat.le_refl _) (.cells #[.int .i64 R.W, .int .i64 R.H, .slice A2 n2 c2] 24)
    have D2 := Lib.hid (b2.trans (bx.mono b2.size))
    have K2 := Lib.hid (Kg.new w2 R.W R.H A2 n2 c2)
    have G2 := Lib.hid (g2.below bx)
    clear g2 b2 bx CN
    go_wp2_with fail
    refine (CM.out _).mono ?_
    rintro e' w3 ⟨A3, n3, c3, rfl, g3, b3⟩
    have bx := (Below.refl w3.heap.size w3).alloc (Nat.le_refl _) (.cells #[.int .i64 R.W, .int .i64 R.H, .slice A3 n3 c3] 24)
    have s3 := b3.trans (bx.mono b3.size)
    have D3 := Lib.hid (D2.out.trans (s3.mono D2.out.size))
    have K23 := Lib.hid (K2.out.below s3)
    have K3 := Lib.hid (Kg.new w3 R.W R.H A3 n3 c3)
    have G23 := Lib.hid (G2.out.below s3)
    have G3 := Lib.hid (g3.below bx)
    have hn2 : n2 ≤ 1000 := by have := fine_len HF.out; have := G23.out.1.1; omega
    clear g3 b3 bx s3 CM
    have SM := Lib.hid (fun W' (h : Below (w3.alloc (.cells #[.int .i64 R.W, .int .i64 R.H, .slice A3 n3 c3] 24)).heap.size (w3.alloc (.cells #[.int .i64 R.W, .int .i64 R.H, .slice A3 n3 c3] 24)) W') => same_g R.W R.H A2 A3 n2 n3 c2 c3 R.L W' (G23.out.below h).1 (G3.out.below h).1 hn2 (fine_sz HF.out))
    have T1 := Lib.hid (fun W' (h : Below (w3.alloc (.cells #[.int .i64 R.W, .int .i64 R.H, .slice A3 n3 c3] 24)).heap.size (w3.alloc (.cells #[.int .i64 R.W, .int .i64 R.H, .slice A3 n3 c3] 24)) W') => C1.out W' (D3.out.trans (h.mono D3.out.size)))
    have T2 := Lib.hid (fun W' (h : Below (w3.alloc (.cells #[.int .i64 R.W, .int .i64 R.H, .slice A3 n3 c3] 24)).heap.size (w3.alloc (.cells #[.int .i64 R.W, .int .i64 R.H, .slice A3 n3 c3] 24)) W') => C2.out W' (D3.out.trans (h.mono D3.out.size)))
    have T4 := Lib.hid (fun W' (h : Below (w3.alloc (.cells #[.int .i64 R.W, .int .i64 R.H, .slice A3 n3 c3] 24)).heap.size (w3.alloc (.cells #[.int .i64 R.W, .int .i64 R.H, .slice A3 n3 c3] 24)) W') => CW.out W' (D3.out.trans (h.mono D3.out.size)))
    have sB : ∀ {W' W'' : World}, Below W'.heap.size W' W'' → (W'.cell? ⟨w.heap.size, 0, none⟩ = some (.int .i64 W) ∧ W'.cell? ⟨w.heap.size, 1, none⟩ = some (.int .i64 H) ∧ W'.cell? ⟨w.heap.size, 2, none⟩ = some (.slice A n c) ∧ W'.cell? ⟨w2.heap.size, 0, none⟩ = some (.int .i64 R.W) ∧ W'.cell? ⟨w2.heap.size, 1, none⟩ = some (.int .i64 R.H) ∧ W'.cell? ⟨w2.heap.size, 2, none⟩ = some (.slice A2 n2 c2) ∧ W'.cell? ⟨w3.heap.size, 0, none⟩ = some (.int .i64 R.W) ∧ W'.cell? ⟨w3.heap.size, 1, none⟩ = some (.int .i64 R.H) ∧ W'.cell? ⟨w3.heap.size, 2, none⟩ = some (.slice A3 n3 c3) ∧ Aside (Below (w3.alloc (.cells #[.int .i64 R.W, .int .i64 R.H, .slice A3 n3 c3] 24)).heap.size (w3.alloc (.cells #[.int .i64 R.W, .int .i64 R.H, .slice A3 n3 c3] 24)) W')) → (W''.cell? ⟨w.heap.size, 0, none⟩ = some (.int .i64 W) ∧ W''.cell? ⟨w.heap.size, 1, none⟩ = some (.int .i64 H) ∧ W''.cell? ⟨w.heap.size, 2, none⟩ = some (.slice A n c) ∧ W''.cell? ⟨w2.heap.size, 0, none⟩ = some (.int .i64 R.W) ∧ W''.cell? ⟨w2.heap.size, 1, none⟩ = some (.int .i64 R.H) ∧ W''.cell? ⟨w2.heap.size, 2, none⟩ = some (.slice A2 n2 c2) ∧ W''.cell? ⟨w3.heap.size, 0, none⟩ = some (.int .i64 R.W) ∧ W''.cell? ⟨w3.heap.size, 1, none⟩ = some (.int .i64 R.H) ∧ W''.cell? ⟨w3.heap.size, 2, none⟩ = some (.slice A3 n3 c3) ∧ Aside (Below (w3.alloc (.cells #[.int .i64 R.W, .int .i64 R.H, .slice A3 n3 c3] 24)).heap.size (w3.alloc (.cells #[.int .i64 R.W, .int .i64 R.H, .slice A3 n3 c3] 24)) W'')) := fun {W' W''} hb h => by
      have hb' := h.2.2.2.2.2.2.2.2.2.out.trans (hb.mono h.2.2.2.2.2.2.2.2.2.out.size)
      have kk := K1.out.below (D3.out.trans (hb'.mono D3.out.size))
      exact ⟨kk.c0, kk.c1, kk.c2, (K23.out.below hb').c0, (K23.out.below hb').c1, (K23.out.below hb').c2, (K3.out.below hb').c0, (K3.out.below hb').c1, (K3.out.below hb').c2, hb'⟩
    have hS : (w3.alloc (.cells #[.int .i64 R.W, .int .i64 R.H, .slice A3 n3 c3] 24)).drew.cell? ⟨w.heap.size, 0, none⟩ = some (.int .i64 W) ∧ (w3.alloc (.cells #[.int .i64 R.W, .int .i64 R.H, .slice A3 n3 c3] 24)).drew.cell? ⟨w.heap.size, 1, none⟩ = some (.int .i64 H) ∧ (w3.alloc (.cells #[.int .i64 R.W, .int .i64 R.H, .slice A3 n3 c3] 24)).drew.cell? ⟨w.heap.size, 2, none⟩ = some (.slice A n c) ∧ (w3.alloc (.cells #[.int .i64 R.W, .int .i64 R.H, .slice A3 n3 c3] 24)).drew.cell? ⟨w2.heap.size, 0, none⟩ = some (.int .i64 R.W) ∧ (w3.alloc (.cells #[.int .i64 R.W, .int .i64 R.H, .slice A3 n3 c3] 24)).drew.cell? ⟨w2.heap.size, 1, none⟩ = some (.int .i64 R.H) ∧ (w3.alloc (.cells #[.int .i64 R.W, .int .i64 R.H, .slice A3 n3 c3] 24)).drew.cell? ⟨w2.heap.size, 2, none⟩ = some (.slice A2 n2 c2) ∧ (w3.alloc (.cells #[.int .i64 R.W, .int .i64 R.H, .slice A3 n3 c3] 24)).drew.cell? ⟨w3.heap.size, 0, none⟩ = some (.int .i64 R.W) ∧ (w3.alloc (.cells #[.int .i64 R.W, .int .i64 R.H, .slice A3 n3 c3] 24)).drew.cell? ⟨w3.heap.size, 1, none⟩ = some (.int .i64 R.H) ∧ (w3.alloc (.cells #[.int .i64 R.W, .int .i64 R.H, .slice A3 n3 c3] 24)).drew.cell? ⟨w3.heap.size, 2, none⟩ = some (.slice A3 n3 c3) ∧ Aside (Below (w3.alloc (.cells #[.int .i64 R.W, .int .i64 R.H, .slice A3 n3 c3] 24)).heap.size (w3.alloc (.cells #[.int .i64 R.W, .int .i64 R.H, .slice A3 n3 c3] 24)) (w3.alloc (.cells #[.int .i64 R.W, .int .i64 R.H, .slice A3 n3 c3] 24)).drew) := by
      have hb' := (Below.refl (w3.alloc (.cells #[.int .i64 R.W, .int .i64 R.H, .slice A3 n3 c3] 24)).heap.size (w3.alloc (.cells #[.int .i64 R.W, .int .i64 R.H, .slice A3 n3 c3] 24))).drew
      have kk := K1.out.below (D3.out.trans (hb'.mono D3.out.size))
      exact ⟨kk.c0, kk.c1, kk.c2, (K23.out.below hb').c0, (K23.out.below hb').c1, (K23.out.below hb').c2, (K3.out.below hb').c0, (K3.out.below hb').c1, (K3.out.below hb').c2, hb'⟩
    clear C1 C2 CW
    go_wp2
    go_region_held3 (fun W' => W'.cell? ⟨w.heap.size, 0, none⟩ = some (.int .i64 W) ∧ W'.cell? ⟨w.heap.size, 1, none⟩ = some (.int .i64 H) ∧ W'.cell? ⟨w.heap.size, 2, none⟩ = some (.slice A n c) ∧ W'.cell? ⟨w2.heap.size, 0, none⟩ = some (.int .i64 R.W) ∧ W'.cell? ⟨w2.heap.size, 1, none⟩ = some (.int .i64 R.H) ∧ W'.cell? ⟨w2.heap.size, 2, none⟩ = some (.slice A2 n2 c2) ∧ W'.cell? ⟨w3.heap.size, 0, none⟩ = some (.int .i64 R.W) ∧ W'.cell? ⟨w3.heap.size, 1, none⟩ = some (.int .i64 R.H) ∧ W'.cell? ⟨w3.heap.size, 2, none⟩ = some (.slice A3 n3 c3) ∧ Aside (Below (w3.alloc (.cells #[.int .i64 R.W, .int .i64 R.H, .slice A3 n3 c3] 24)).heap.size (w3.alloc (.cells #[.int .i64 R.W, .int .i64 R.H, .slice A3 n3 c3] 24)) W'))
      (assumption)
      (first
        | (go_at_call 15; (with_reducible refine (T1.out _ hS.2.2.2.2.2.2.2.2.2.out).mono ?_); rintro e' w4 ⟨rfl, b4⟩; have hs4 := sB b4 (by assumption); clear b4)
        | (go_at_call 16; (with_reducible refine (T2.out _ hs4.2.2.2.2.2.2.2.2.2.out).mono ?_); rintro e' w5 ⟨rfl, b5⟩; have hs5 := sB b5 (by assumption); clear b5)
        | (go_at_call 17; (with_reducible refine (SM.out _ hs5.2.2.2.2.2.2.2.2.2.out).mono ?_); rintro e' w6 ⟨rfl, b6⟩; have hs6 := sB b6 (by assumption); clear b6)
        | (go_at_call 12; (with_reducible refine (T4.out _ hs6.2.2.2.2.2.2.2.2.2.out).mono ?_); rintro e' w7 ⟨rfl, b7⟩; have hs7 := sB b7 (by assumption); clear b7))
    have B7 := Lib.hid (BV.out.trans ((D3.out.trans (hs7.2.2.2.2.2.2.2.2.2.out.mono D3.out.size)).mono BV.out.size))
    clear sB hS hs4 hs5 hs6 hs7
    go_wp2
    go_ret
    exact ⟨rfl, B7.out⟩
  · rw [hg, if_pos rfl] at CG
    clear hg
    have CW1 := Lib.hid (CW.out V (Below.refl _ _))
    subst hV
    go_enter Tryd.func3, Tryd.ntmps3
    go_wp2_with fail
    refine CG.out.mono ?_
    rintro e' w1 ⟨rfl, rfl⟩
    go_wp2_with fail
    refine CW1.out.mono ?_
    rintro e' w2 ⟨rfl, b2⟩
    have B2 := Lib.hid (BV.out.trans (b2.mono BV.out.size))
    clear b2
    go_wp2
    go_ret
    exact ⟨rfl, B2.out⟩

end Go.Proofs.YtokeaoapcjlmkaaDoor
