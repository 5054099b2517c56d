/-
  The statement on the styles returns true, for every two renditions.
-/
import Derived.Test.YtodcjdglnfgdpaaDoorKe
import Derived.RegionTactic
import Derived.ChangeAlike
import Derived.BigRegion
import Derived.Deep.DeepCutAuto
namespace Go.Proofs.YtodcjdglnfgdpaaDoor
open Go.RowKit

theorem sty_and : ∀ x : Fin 256, bits .and .i64 ((x : Nat) : Int) 130 = 0 ∨ bits .and .i64 ((x : Nat) : Int) 130 = 2 ∨ bits .and .i64 ((x : Nat) : Int) 130 = 128 ∨ bits .and .i64 ((x : Nat) : Int) 130 = 130 := by decide +kernel
theorem sty_xor : ∀ x : Fin 256, At.style (bits .xor .i64 ((x : Nat) : Int) 0) = At.style ((x : Nat) : Int) ∧ At.style (bits .xor .i64 ((x : Nat) : Int) 2) = At.style ((x : Nat) : Int) ∧ At.style (bits .xor .i64 ((x : Nat) : Int) 128) = At.style ((x : Nat) : Int) ∧ At.style (bits .xor .i64 ((x : Nat) : Int) 130) = At.style ((x : Nat) : Int) := by decide +kernel
theorem sty_rest : ∀ x : Fin 256, At.style (bits .or .i64 ((x : Nat) : Int) 64) = 3 ∧ At.style (bits .or .i64 (bits .andNot .i64 ((x : Nat) : Int) 64) 32) = 2 ∧ (At.style ((x : Nat) : Int) == 0) = (bits .andNot .i64 ((x : Nat) : Int) 130 == 0) := by decide +kernel
theorem style_free {g g' : Int} (h : 0 ≤ g ∧ g ≤ 255) (h' : 0 ≤ g' ∧ g' ≤ 255) : At.style (bits .xor .i64 g (bits .and .i64 g' 130)) = At.style g := by
  obtain ⟨x, rfl⟩ := At.fin_of h
  obtain ⟨y, rfl⟩ := At.fin_of h'
  have q := sty_xor x
  rcases sty_and y with e | e | e | e <;> rw [e]
  · exact q.1
  · exact q.2.1
  · exact q.2.2.1
  · exact q.2.2.2

theorem style_laws {g : Int} (h : 0 ≤ g ∧ g ≤ 255) : At.style (bits .or .i64 g 64) = 3 ∧ At.style (bits .or .i64 (bits .andNot .i64 g 64) 32) = 2 ∧ (At.style g == 0) = (bits .andNot .i64 g 130 == 0) := by
  obtain ⟨x, rfl⟩ := At.fin_of h
  exact sty_rest x
theorem Ke.set {w W : World} {rs rs' : List (Nat × At.R)} {k : Nat} {a a' : At.R} (h : Ke w W (rs ++ (k, a) :: rs')) {o : Nat} {v : Value} (hr : Rec (W.setCell ⟨k, o, none⟩ v) k a') (h1 : ∀ r ∈ rs, r.1 ≠ k) (h2 : ∀ r ∈ rs', r.1 ≠ k) (hw : w.heap.size ≤ k) (h0 : 0 < w.heap.size) : Ke w (W.setCell ⟨k, o, none⟩ v) (rs ++ (k, a') :: rs') := by
  refine ⟨fun r hm => ?_, h.2.1.setCell hw _, h.2.2.set (by omega) _⟩
  rw [List.mem_append, List.mem_cons] at hm
  rcases hm with hm | rfl | hm
  · exact (h.1 r (by simp [hm])).other (h1 r hm) _
  · exact hr
  · exact (h.1 r (by simp [hm])).other (h2 r hm) _
theorem Ke.two {w : World} (hT : Tb w) (a b : At.R) : Ke w ((w.alloc (.cells #[.int .i64 a.f, .int .i64 a.b, .int .i64 a.g] 23)).alloc (.cells #[.int .i64 b.f, .int .i64 b.b, .int .i64 b.g] 23)) [(w.heap.size, a), (w.heap.size + 1, b)] := by
  have h := ((Ke.start hT).more a).more b
  rw [World.size_alloc] at h
  exact h

set_option maxHeartbeats 4000000 in
set_option maxRecDepth 100000 in
theorem styles_main (a b : At.R) (w : World) (hT : Tb w) (ha : At.ok a) (hb : At.ok b) :
    Calls Tryd.prog 10 #[av a, av b] w fun e w' => e = .returned (.bool true) ∧ Below w.heap.size w w' := by
  have cA := Lib.hid (fun W h => check_yes a W h ha)
  have cB := Lib.hid (fun W h => check_yes b W h hb)
  have H0 := Lib.hid (Ke.two hT a b)
  have M1 := Lib.hid (style_free ha.2.2 hb.2.2)
  have ML := Lib.hid (style_laws ha.2.2)
  have hw := hT.lt
  obtain ⟨f, c, g⟩ := a
  obtain ⟨f', c', g'⟩ := b
  clear ha hb
  simp only at H0 M1 ML
  go_enter Tryd.func10, Tryd.ntmps10
  go_wp2_with fail
  generalize (w.alloc (.cells #[.int .i64 f, .int .i64 c, .int .i64 g] 23)).alloc (.cells #[.int .i64 f', .int .i64 c', .int .i64 g'] 23) = W0 at H0 ⊢
  refine (cA.out W0 H0.out.2.2).mono ?_
  rintro e w1 ⟨rfl, b1⟩
  have H1 := Lib.hid (H0.out.below b1)
  have r1 := H1.out.rec 1 rfl
  have z0 := r1.c0
  have z1 := r1.c1
  have z2 := r1.c2
  clear b1 H0 r1
  go_wp2_with fail
  refine (cB.out w1 H1.out.2.2).mono ?_
  rintro e w2 ⟨rfl, b2⟩
  have H2 := Lib.hid (H1.out.below b2)
  clear b2 H1 z0 z1 z2 cA cB
  have r0 := H2.out.rec 0 rfl
  have z0 := r0.c0
  have z1 := r0.c1
  have z2 := r0.c2
  have H3 := Lib.hid (H2.out.more ⟨f, c, g⟩)
  have n0 : w.heap.size ≠ w2.heap.size := by have := r0.lt; omega
  have n1 : w.heap.size + 1 ≠ w2.heap.size := by have := (H2.out.rec 1 rfl).lt; omega
  go_upto_region 4 with fail
  clear r0 z0 z1 z2
  simp only [List.cons_append, List.nil_append] at H3
  generalize w2.alloc (.cells #[.int .i64 f, .int .i64 c, .int .i64 g] 23) = W3 at H3 ⊢
  have HK := Lib.hid H2.out.2.1.size
  generalize w2.heap.size = k at H3 n0 n1 HK ⊢
  clear H2
  obtain ⟨x, hx⟩ : ∃ x, bits .xor .i64 g (bits .and .i64 g' 130) = x := ⟨_, rfl⟩
  have HX := Lib.hid hx
  rw [hx] at M1
  clear hx
  go_cut [30] (fun _ wx => Aside (Ke w wx [(w.heap.size, ⟨f, c, g⟩), (w.heap.size + 1, ⟨f', c', g'⟩), (k, ⟨f', c', x⟩)]))
  case first =>
    have r3 := H3.out.rec 0 rfl
    have q3 := H3.out.rec 1 rfl
    have s3 := H3.out.rec 2 rfl
    have x2 := r3.c2
    have y0 := q3.c0
    have y1 := q3.c1
    have y2 := q3.c2
    have t0 := s3.c0
    have t1 := s3.c1
    have t2 := s3.c2
    have v0 := s3.z 0
    have v1 := s3.z 1
    have v2 := s3.z 2
    clear r3 q3 s3
    go_region
    clear x2 y0 y1 y2 t0 t1 t2 v0 v1 v2
    go_wp2
    go_meet
    have hk : w.heap.size ≤ k := by have := HK.out; omega
    rw [HX.out]
    have hne : ∀ r ∈ [(w.heap.size, (⟨f, c, g⟩ : At.R)), (w.heap.size + 1, ⟨f', c', g'⟩)], r.1 ≠ k := by
      intro r hr
      simp at hr
      rcases hr with rfl | rfl
      · exact n0
      · exact n1
    have e0 : Ke w W3 ([(w.heap.size, ⟨f, c, g⟩), (w.heap.size + 1, ⟨f', c', g'⟩)] ++ (k, ⟨f, c, g⟩) :: []) := H3.out
    have e1 := e0.set ((e0.rec 2 rfl).s0 f') hne (fun r hr => by cases hr) hk hw
    have e2 := e1.set ((e1.rec 2 rfl).s1 c') hne (fun r hr => by cases hr) hk hw
    have e3 := e2.set ((e2.rec 2 rfl).s2 x) hne (fun r hr => by cases hr) hk hw
    exact e3.drew
  case rest =>
    have H4 := Lib.hid hcut.out
    clear hcut H3
    have cS : ∀ (W : World) (f b g : Int), Calls Tryd.prog 19 #[.agg #[.int .i64 f, .int .i64 b, .int .i64 g]] W fun e w' => e = .returned (.int .i64 (At.style g)) ∧ Below W.heap.size W w' := fun W f b g => style_any f b g W
    have es : (At.style x != At.style g) = false := by rw [M1.out]; simp
    go_upto_region 5 with fail
    generalize wc = W4 at H4 ⊢
    go_cut [35] (fun v wx => v = .bool false ∧ Aside (Ke w wx [(w.heap.size, ⟨f, c, g⟩), (w.heap.size + 1, ⟨f', c', g'⟩), (k, ⟨f', c', x⟩)]))
    case first =>
      have keep : ∀ {W W' : World}, (W.cell? ⟨w.heap.size, 0, none⟩ = some (.int .i64 f) ∧ W.cell? ⟨w.heap.size, 1, none⟩ = some (.int .i64 c) ∧ W.cell? ⟨w.heap.size, 2, none⟩ = some (.int .i64 g) ∧ W.cell? ⟨k, 0, none⟩ = some (.int .i64 f') ∧ W.cell? ⟨k, 1, none⟩ = some (.int .i64 c') ∧ W.cell? ⟨k, 2, none⟩ = some (.int .i64 x) ∧ Aside (Ke w W [(w.heap.size, ⟨f, c, g⟩), (w.heap.size + 1, ⟨f', c', g'⟩), (k, ⟨f', c', x⟩)])) → Below W.heap.size W W' → (W'.cell? ⟨w.heap.size, 0, none⟩ = some (.int .i64 f) ∧ W'.cell? ⟨w.heap.size, 1, none⟩ = some (.int .i64 c) ∧ W'.cell? ⟨w.heap.size, 2, none⟩ = some (.int .i64 g) ∧ W'.cell? ⟨k, 0, none⟩ = some (.int .i64 f') ∧ W'.cell? ⟨k, 1, none⟩ = some (.int .i64 c') ∧ W'.cell? ⟨k, 2, none⟩ = some (.int .i64 x) ∧ Aside (Ke w W' [(w.heap.size, ⟨f, c, g⟩), (w.heap.size + 1, ⟨f', c', g'⟩), (k, ⟨f', c', x⟩)])) := by
        intro W W' h hb
        have q := h.2.2.2.2.2.2.out.below hb
        have r := q.rec 0 rfl
        have s := q.rec 2 rfl
        exact ⟨r.c0, r.c1, r.c2, s.c0, s.c1, s.c2, q⟩
      have hS4 : W4.drew.cell? ⟨w.heap.size, 0, none⟩ = some (.int .i64 f) ∧ W4.drew.cell? ⟨w.heap.size, 1, none⟩ = some (.int .i64 c) ∧ W4.drew.cell? ⟨w.heap.size, 2, none⟩ = some (.int .i64 g) ∧ W4.drew.cell? ⟨k, 0, none⟩ = some (.int .i64 f') ∧ W4.drew.cell? ⟨k, 1, none⟩ = some (.int .i64 c') ∧ W4.drew.cell? ⟨k, 2, none⟩ = some (.int .i64 x) ∧ Aside (Ke w W4.drew [(w.heap.size, ⟨f, c, g⟩), (w.heap.size + 1, ⟨f', c', g'⟩), (k, ⟨f', c', x⟩)]) := ⟨(H4.out.rec 0 rfl).c0, (H4.out.rec 0 rfl).c1, (H4.out.rec 0 rfl).c2, (H4.out.rec 2 rfl).c0, (H4.out.rec 2 rfl).c1, (H4.out.rec 2 rfl).c2, H4.out.drew⟩
      clear H4
      go_region_held3 (fun W => W.cell? ⟨w.heap.size, 0, none⟩ = some (.int .i64 f) ∧ W.cell? ⟨w.heap.size, 1, none⟩ = some (.int .i64 c) ∧ W.cell? ⟨w.heap.size, 2, none⟩ = some (.int .i64 g) ∧ W.cell? ⟨k, 0, none⟩ = some (.int .i64 f') ∧ W.cell? ⟨k, 1, none⟩ = some (.int .i64 c') ∧ W.cell? ⟨k, 2, none⟩ = some (.int .i64 x) ∧ Aside (Ke w W [(w.heap.size, ⟨f, c, g⟩), (w.heap.size + 1, ⟨f', c', g'⟩), (k, ⟨f', c', x⟩)]))
        (assumption)
        (first | (go_at_call 19; refine (cS _ _ _ _).mono ?_; rintro e w' ⟨rfl, hb'⟩; have hs' := keep (by assumption) hb'))
      go_wp2
      go_meet
      exact ⟨rfl, hs'.2.2.2.2.2.2.out⟩
    case rest =>
      obtain ⟨rfl, h5⟩ := hcut
      have H5 := Lib.hid h5.out
      clear h5 H4 cS es
      generalize wc = W5 at H5 ⊢
      go_upto_region 7 with fail
      go_cut [6, 7] (fun v6 v7 wx => ∃ p q, v6 = .pointer (some ⟨p, 0, none⟩) ∧ v7 = .pointer (some ⟨q, 0, none⟩) ∧ Aside (Ke w wx [(w.heap.size, ⟨f, c, g⟩), (w.heap.size + 1, ⟨f', c', g'⟩), (k, ⟨f', c', x⟩), (p, ⟨f, c, g⟩), (q, ⟨f, c, g⟩)] ∧ (w.heap.size < p ∧ w.heap.size + 1 < p ∧ k < p) ∧ (w.heap.size < q ∧ w.heap.size + 1 < q ∧ k < q) ∧ p ≠ q))
      case first =>
        have l0 := H5.out.rec 0 rfl
        have l1 := H5.out.rec 1 rfl
        have l2 := H5.out.rec 2 rfl
        have x0 := l0.c0
        have x1 := l0.c1
        have x2 := l0.c2
        have n2 : w.heap.size ≠ W5.heap.size := by have := l0.lt; omega
        have n3 : w.heap.size ≠ W5.heap.size + 1 := by have := l0.lt; omega
        have n4 : w.heap.size < W5.heap.size := l0.lt
        have HD : Hid (w.heap.size < W5.heap.size ∧ w.heap.size + 1 < W5.heap.size ∧ k < W5.heap.size) := Lib.hid ⟨l0.lt, l1.lt, l2.lt⟩
        have H6 : Hid (Ke w ((W5.alloc (.cells #[.int .i64 f, .int .i64 c, .int .i64 g] 23)).alloc (.cells #[.int .i64 f, .int .i64 c, .int .i64 g] 23)).drew [(w.heap.size, ⟨f, c, g⟩), (w.heap.size + 1, ⟨f', c', g'⟩), (k, ⟨f', c', x⟩), (W5.heap.size, ⟨f, c, g⟩), (W5.heap.size + 1, ⟨f, c, g⟩)]) := Lib.hid (by
          have q := (H5.out.more ⟨f, c, g⟩).more ⟨f, c, g⟩
          rw [World.size_alloc] at q
          exact q.drew)
        clear l0 l1 l2 H5
        go_region
        · go_wp2
          go_meet
          exact ⟨W5.heap.size, W5.heap.size + 1, rfl, rfl, ⟨H6.out, HD.out, by have := HD.out; omega, by omega⟩⟩
        · go_wp2
          go_meet
          refine ⟨W5.heap.size + 1, W5.heap.size, rfl, rfl, ⟨⟨fun r hr => ?_, H6.out.2⟩, by have := HD.out; omega, HD.out, by omega⟩⟩
          apply H6.out.1
          simp at hr ⊢
          rcases hr with h | h | h | h | h <;> simp [h]
      case rest =>
        obtain ⟨p, q, rfl, rfl, h6⟩ := hcut
        have H6 := Lib.hid h6.out
        clear h6 H5
        generalize wc = W6 at H6 ⊢
        have r6 := H6.out.1.rec 3 rfl
        have r7 := H6.out.1.rec 4 rfl
        have a6 := r6.c2
        have a7 := r7.c2
        have f6 := r6.z 2
        have f7 := r7.z 2
        have dm : p ≠ q := H6.out.2.2.2
        have dp : q ≠ p := Ne.symm dm
        clear r6 r7
        have M6 := Lib.hid ML.out.1
        have M7 := Lib.hid ML.out.2.1
        have m8 := ML.out.2.2
        clear ML
        go_upto_region 10 with fail
        clear a6 a7 f6 f7 dm dp
        generalize bits .or .i64 (bits .andNot .i64 g 64) 32 = g7 at M7 ⊢
        generalize bits .or .i64 g 64 = g6 at M6 ⊢
        have H7 : Hid (Ke w ((W6.setCell ⟨p, 2, none⟩ (.int .i64 g6)).setCell ⟨q, 2, none⟩ (.int .i64 g7)) [(w.heap.size, ⟨f, c, g⟩), (w.heap.size + 1, ⟨f', c', g'⟩), (k, ⟨f', c', x⟩), (p, ⟨f, c, g6⟩), (q, ⟨f, c, g7⟩)]) := Lib.hid (by
          have d := H6.out.2
          have e0 : Ke w W6 ([(w.heap.size, ⟨f, c, g⟩), (w.heap.size + 1, ⟨f', c', g'⟩), (k, ⟨f', c', x⟩)] ++ (p, ⟨f, c, g⟩) :: [(q, ⟨f, c, g⟩)]) := H6.out.1
          have e1 := e0.set ((e0.rec 3 rfl).s2 g6) (by
            intro r hr
            simp at hr
            rcases hr with rfl | rfl | rfl <;> simp <;> omega) (by
            intro r hr
            simp at hr
            subst hr
            exact Ne.symm d.2.2) (by omega) hw
          have e2 : Ke w _ ([(w.heap.size, ⟨f, c, g⟩), (w.heap.size + 1, ⟨f', c', g'⟩), (k, ⟨f', c', x⟩), (p, ⟨f, c, g6⟩)] ++ (q, ⟨f, c, g⟩) :: []) := e1
          have e3 := e2.set ((e2.rec 4 rfl).s2 g7) (by
            intro r hr
            simp at hr
            rcases hr with rfl | rfl | rfl | rfl <;> simp <;> omega) (fun r hr => by cases hr) (by omega) hw
          exact e3)
        generalize (W6.setCell ⟨p, 2, none⟩ (.int .i64 g6)).setCell ⟨q, 2, none⟩ (.int .i64 g7) = W7 at H7 ⊢
        clear H6
        have c6 : ∀ W : World, Calls Tryd.prog 19 #[.agg #[.int .i64 f, .int .i64 c, .int .i64 g6]] W fun e w' => e = .returned (.int .i64 3) ∧ Below W.heap.size W w' := fun W => by have q := style_any f c g6 W; rwa [M6.out] at q
        have c7 : ∀ W : World, Calls Tryd.prog 19 #[.agg #[.int .i64 f, .int .i64 c, .int .i64 g7]] W fun e w' => e = .returned (.int .i64 2) ∧ Below W.heap.size W w' := fun W => by have q := style_any f c g7 W; rwa [M7.out] at q
        have c2 : ∀ W : World, Calls Tryd.prog 19 #[.agg #[.int .i64 f, .int .i64 c, .int .i64 g]] W fun e w' => e = .returned (.int .i64 (At.style g)) ∧ Below W.heap.size W w' := fun W => style_any f c g W
        have keep : ∀ {W W' : World}, (W.cell? ⟨w.heap.size, 0, none⟩ = some (.int .i64 f) ∧ W.cell? ⟨w.heap.size, 1, none⟩ = some (.int .i64 c) ∧ W.cell? ⟨w.heap.size, 2, none⟩ = some (.int .i64 g) ∧ W.cell? ⟨p, 0, none⟩ = some (.int .i64 f) ∧ W.cell? ⟨p, 1, none⟩ = some (.int .i64 c) ∧ W.cell? ⟨p, 2, none⟩ = some (.int .i64 g6) ∧ W.cell? ⟨q, 0, none⟩ = some (.int .i64 f) ∧ W.cell? ⟨q, 1, none⟩ = some (.int .i64 c) ∧ W.cell? ⟨q, 2, none⟩ = some (.int .i64 g7) ∧ Aside (Ke w W [(w.heap.size, ⟨f, c, g⟩), (w.heap.size + 1, ⟨f', c', g'⟩), (k, ⟨f', c', x⟩), (p, ⟨f, c, g6⟩), (q, ⟨f, c, g7⟩)])) → Below W.heap.size W W' → (W'.cell? ⟨w.heap.size, 0, none⟩ = some (.int .i64 f) ∧ W'.cell? ⟨w.heap.size, 1, none⟩ = some (.int .i64 c) ∧ W'.cell? ⟨w.heap.size, 2, none⟩ = some (.int .i64 g) ∧ W'.cell? ⟨p, 0, none⟩ = some (.int .i64 f) ∧ W'.cell? ⟨p, 1, none⟩ = some (.int .i64 c) ∧ W'.cell? ⟨p, 2, none⟩ = some (.int .i64 g6) ∧ W'.cell? ⟨q, 0, none⟩ = some (.int .i64 f) ∧ W'.cell? ⟨q, 1, none⟩ = some (.int .i64 c) ∧ W'.cell? ⟨q, 2, none⟩ = some (.int .i64 g7) ∧ Aside (Ke w W' [(w.heap.size, ⟨f, c, g⟩), (w.heap.size + 1, ⟨f', c', g'⟩), (k, ⟨f', c', x⟩), (p, ⟨f, c, g6⟩), (q, ⟨f, c, g7⟩)])) := by
          intro W W' h hb
          have y := h.2.2.2.2.2.2.2.2.2.out.below hb
          have r := y.rec 0 rfl
          have s := y.rec 3 rfl
          have t := y.rec 4 rfl
          exact ⟨r.c0, r.c1, r.c2, s.c0, s.c1, s.c2, t.c0, t.c1, t.c2, y⟩
        have hcW : ∀ W : World, (W.cell? ⟨w.heap.size, 0, none⟩ = some (.int .i64 f) ∧ W.cell? ⟨w.heap.size, 1, none⟩ = some (.int .i64 c) ∧ W.cell? ⟨w.heap.size, 2, none⟩ = some (.int .i64 g) ∧ W.cell? ⟨p, 0, none⟩ = some (.int .i64 f) ∧ W.cell? ⟨p, 1, none⟩ = some (.int .i64 c) ∧ W.cell? ⟨p, 2, none⟩ = some (.int .i64 g6) ∧ W.cell? ⟨q, 0, none⟩ = some (.int .i64 f) ∧ W.cell? ⟨q, 1, none⟩ = some (.int .i64 c) ∧ W.cell? ⟨q, 2, none⟩ = some (.int .i64 g7) ∧ Aside (Ke w W [(w.heap.size, ⟨f, c, g⟩), (w.heap.size + 1, ⟨f', c', g'⟩), (k, ⟨f', c', x⟩), (p, ⟨f, c, g6⟩), (q, ⟨f, c, g7⟩)])) → Calls Tryd.prog 12 #[] W fun e w' => e = .returned (.bool true) ∧ Below W.heap.size W w' := fun W h => awake_any W h.2.2.2.2.2.2.2.2.2.out.2.2
        have k7 : Ke w W7.drew _ := H7.out.drew
        have ra := k7.rec 0 rfl
        have rb := k7.rec 3 rfl
        have rc := k7.rec 4 rfl
        have hS7 : W7.drew.cell? ⟨w.heap.size, 0, none⟩ = some (.int .i64 f) ∧ W7.drew.cell? ⟨w.heap.size, 1, none⟩ = some (.int .i64 c) ∧ W7.drew.cell? ⟨w.heap.size, 2, none⟩ = some (.int .i64 g) ∧ W7.drew.cell? ⟨p, 0, none⟩ = some (.int .i64 f) ∧ W7.drew.cell? ⟨p, 1, none⟩ = some (.int .i64 c) ∧ W7.drew.cell? ⟨p, 2, none⟩ = some (.int .i64 g6) ∧ W7.drew.cell? ⟨q, 0, none⟩ = some (.int .i64 f) ∧ W7.drew.cell? ⟨q, 1, none⟩ = some (.int .i64 c) ∧ W7.drew.cell? ⟨q, 2, none⟩ = some (.int .i64 g7) ∧ Aside (Ke w W7.drew [(w.heap.size, ⟨f, c, g⟩), (w.heap.size + 1, ⟨f', c', g'⟩), (k, ⟨f', c', x⟩), (p, ⟨f, c, g6⟩), (q, ⟨f, c, g7⟩)]) := ⟨ra.c0, ra.c1, ra.c2, rb.c0, rb.c1, rb.c2, rc.c0, rc.c1, rc.c2, k7⟩
        clear ra rb rc k7
        clear H7 M6 M7
        go_region_held3 (fun W => W.cell? ⟨w.heap.size, 0, none⟩ = some (.int .i64 f) ∧ W.cell? ⟨w.heap.size, 1, none⟩ = some (.int .i64 c) ∧ W.cell? ⟨w.heap.size, 2, none⟩ = some (.int .i64 g) ∧ W.cell? ⟨p, 0, none⟩ = some (.int .i64 f) ∧ W.cell? ⟨p, 1, none⟩ = some (.int .i64 c) ∧ W.cell? ⟨p, 2, none⟩ = some (.int .i64 g6) ∧ W.cell? ⟨q, 0, none⟩ = some (.int .i64 f) ∧ W.cell? ⟨q, 1, none⟩ = some (.int .i64 c) ∧ W.cell? ⟨q, 2, none⟩ = some (.int .i64 g7) ∧ Aside (Ke w W [(w.heap.size, ⟨f, c, g⟩), (w.heap.size + 1, ⟨f', c', g'⟩), (k, ⟨f', c', x⟩), (p, ⟨f, c, g6⟩), (q, ⟨f, c, g7⟩)]))
          (assumption)
          (first | (go_at_call 19; (with_reducible refine (c6 _).mono ?_); rintro e w' ⟨rfl, hb'⟩; have hs' := keep (by assumption) hb') | (go_at_call 19; (with_reducible refine (c7 _).mono ?_); rintro e w' ⟨rfl, hb'⟩; have hs' := keep (by assumption) hb') | (go_at_call 19; (with_reducible refine (c2 _).mono ?_); rintro e w' ⟨rfl, hb'⟩; have hs' := keep (by assumption) hb') | (go_at_call 12; refine (hcW _ (by assumption)).mono ?_; rintro e w' ⟨rfl, hb'⟩; have hs' := keep (by assumption) hb'))
        go_wp2
        go_ret
        exact ⟨rfl, hs'.2.2.2.2.2.2.2.2.2.out.2.1⟩

end Go.Proofs.YtodcjdglnfgdpaaDoor
