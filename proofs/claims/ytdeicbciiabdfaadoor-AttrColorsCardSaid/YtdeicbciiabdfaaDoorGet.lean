/-
  What the function inside the statement on colors returns.
-/
import Derived.Test.YtdeicbciiabdfaaDoorKe
import Derived.Deep.AppendLies
import Derived.Deep.RegionLaw
import Derived.Deep.DeepCutAuto
namespace Go.Proofs.YtdeicbciiabdfaaDoor
open Go.RowKit

theorem nums_at {w : World} {g n cap : Nat} {xs : List Int} {base : Nat} (h : w.ownsRow base 3 1 (.slice (some ⟨g, 0, none⟩) n cap) n (xs.map (Value.int .i64))) : Nums w w.heap.size (some ⟨g, 0, none⟩) n xs := Nums.of_own h

set_option maxHeartbeats 4000000 in
set_option maxRecDepth 100000 in
theorem get_first (a r : At.R) (code : Int) (bk : Bool) (pa pc pb : Nat) (ad : Addr) (m c : Nat) (ys : List Int) (w : World) (hT : Tb w) (ra : Rec w pa a) (hc : w.cell? ⟨pc, 0, none⟩ = some (.int .i64 code)) (lc : pc < w.heap.size) (hbk : w.cell? ⟨pb, 0, none⟩ = some (.bool bk)) (lb : pb < w.heap.size)
    (hY : Nums w w.heap.size (some ad) m ys) (h0 : 0 < m) (hm : m ≤ 100) (hr : ∀ z ∈ code :: ys, z ≤ 9223372036854775807) (hR : At.apply a (code :: ys) = r) (z : Int) (hz : r = if bk then ⟨a.f, z, a.g⟩ else ⟨z, a.b, a.g⟩) :
    Calls Tryd.prog 6 #[.slice (some ad) m c, .pointer (some ⟨pa, 0, none⟩), .pointer (some ⟨pc, 0, none⟩), .pointer (some ⟨pb, 0, none⟩)] w fun e w' => e = .returned (.int .i64 z) ∧ Below w.heap.size w w' := by
  obtain ⟨i0, hi0, hz0, hz1, hz2⟩ := info_parts Tryd.infoInt
  have la := ra.lt
  have hA : ∀ (W : World) (g n cap : Nat), Below w.heap.size w W → Nums W W.heap.size (some ⟨g, 0, none⟩) n (code :: ys) → Calls Tryd.prog 7 #[av a, .slice (some ⟨g, 0, none⟩) n cap] W fun e w' => e = .returned (av r) ∧ Below W.heap.size W w' := fun W g n cap hb hn => by
    have := apply_any (some ⟨g, 0, none⟩) n cap W.heap.size (code :: ys) a W (Nat.le_refl _) hn (fun e => by cases e) (by have e := hn.1; have e2 := hY.1; simp at e; omega) hr (hT.below hb (Nat.le_refl _))
    rwa [hR] at this
  have HA := Lib.hid hA
  have HY := Lib.hid hY
  have HR := Lib.hid ra
  have HT := Lib.hid hT
  obtain ⟨f, b, g⟩ := a
  obtain ⟨f', b', g'⟩ := r
  have HZ := Lib.hid hz
  have W1o : Hid (Out w (w.alloc (.cells #[.int .i64 code] 3)) (.slice (some ⟨w.heap.size, 0, none⟩) 1 1) [code]) := Lib.hid (Out.made w [code] (by simp))
  clear hA hY ra hT hz hR hr
  go_enter Tryd.func6, Tryd.ntmps6
  have kS : ∀ {W : World}, Below w.heap.size w W → (W.cell? ⟨pa, 0, none⟩ = some (.int .i64 f) ∧ W.cell? ⟨pa, 1, none⟩ = some (.int .i64 b) ∧ W.cell? ⟨pa, 2, none⟩ = some (.int .i64 g) ∧ W.cell? ⟨pc, 0, none⟩ = some (.int .i64 code) ∧ Aside (Below w.heap.size w W)) := fun {W} hb =>
    ⟨(hb.cell (p := ⟨pa, 0, none⟩) la).trans HR.out.c0, (hb.cell (p := ⟨pa, 1, none⟩) la).trans HR.out.c1, (hb.cell (p := ⟨pa, 2, none⟩) la).trans HR.out.c2, (hb.cell (p := ⟨pc, 0, none⟩) lc).trans hc, hb⟩
  have kA : ∀ {W : World} (o : Obj), (W.cell? ⟨pa, 0, none⟩ = some (.int .i64 f) ∧ W.cell? ⟨pa, 1, none⟩ = some (.int .i64 b) ∧ W.cell? ⟨pa, 2, none⟩ = some (.int .i64 g) ∧ W.cell? ⟨pc, 0, none⟩ = some (.int .i64 code) ∧ Aside (Below w.heap.size w W)) → ((W.alloc o).cell? ⟨pa, 0, none⟩ = some (.int .i64 f) ∧ (W.alloc o).cell? ⟨pa, 1, none⟩ = some (.int .i64 b) ∧ (W.alloc o).cell? ⟨pa, 2, none⟩ = some (.int .i64 g) ∧ (W.alloc o).cell? ⟨pc, 0, none⟩ = some (.int .i64 code) ∧ Aside (Below w.heap.size w (W.alloc o))) := fun {W} o h => kS (h.2.2.2.2.out.alloc h.2.2.2.2.out.size o)
  have HB : Hid (∀ (W W' : World) (v : Value) (B : Nat), Below w.heap.size w W → W.grownBy W' v.ownBlock → v.ownBlock = some B → w.heap.size ≤ B → Below w.heap.size w W') := Lib.hid (fun W W' v B h1 h2 h3 h4 => h1.grown h2 h1.size (fun k hk => by rw [h3] at hk; injection hk with hk; omega))
  have hlen : (ys.map (Value.int .i64)).length = m * 1 := by have := HY.out.1; simp; omega
  have hone : ∀ u ∈ ys.map (Value.int .i64), u.oneCell' = true := by
    intro u hu
    obtain ⟨x, _, rfl⟩ := List.mem_map.1 hu
    rfl
  have hnews : ∀ W, Below w.heap.size w W → ∀ j u, (ys.map (Value.int .i64))[j]? = some u → W.cell? (ad.add j) = some u := by
    intro W hb j u hj
    have hN := HY.out.below hb (Nat.le_refl _)
    have hjm : j < m := by
      have e := HY.out.1
      rcases Nat.lt_or_ge j ys.length with h1 | h1
      · omega
      · rw [List.getElem?_eq_none (by simpa using h1)] at hj; cases hj
    obtain ⟨b, off, e, _, hcc⟩ := hN.2 j hjm
    injection e with e
    subst e
    have hu : u = .int .i64 (ys.getD j 0) := by
      have hjy : j < ys.length := by have := HY.out.1; omega
      simp [hjy] at hj
      simp [hjy, ← hj]
    subst hu
    by_cases h0 : j = 0
    · subst h0; simpa [Addr.add] using hcc
    · simpa [Addr.add, h0] using hcc
  have HN := Lib.hid hnews
  clear hnews
  have bA : Below w.heap.size w (w.alloc (.cells #[.int .i64 code] 3)).drew := ((Below.refl _ w).alloc (Nat.le_refl _) _).drew
  have bB : Below w.heap.size w ((w.alloc (.cells #[.int .i64 0, .int .i64 0, .int .i64 0] 23)).alloc (.cells #[.int .i64 code] 3)).drew := (((Below.refl _ w).alloc (Nat.le_refl _) _).alloc (by simp) _).drew
  have bC : Below w.heap.size w ((w.alloc (.cells #[.int .i64 code] 3)).alloc (.cells #[.int .i64 0, .int .i64 0, .int .i64 0] 23)).drew := (((Below.refl _ w).alloc (Nat.le_refl _) _).alloc (by simp) _).drew
  have oA : Hid ((w.alloc (.cells #[.int .i64 code] 3)).drew.ownsRow w.heap.size 3 1 (.slice (some ⟨w.heap.size, 0, none⟩) 1 1) 1 [.int .i64 code]) := Lib.hid (owns_below W1o.out.1 ((Below.refl _ _).drew))
  have oC : Hid (((w.alloc (.cells #[.int .i64 code] 3)).alloc (.cells #[.int .i64 0, .int .i64 0, .int .i64 0] 23)).drew.ownsRow w.heap.size 3 1 (.slice (some ⟨w.heap.size, 0, none⟩) 1 1) 1 [.int .i64 code]) := Lib.hid (owns_below (W1o.out.1.alloc (.cells #[.int .i64 0, .int .i64 0, .int .i64 0] 23)) ((Below.refl _ _).drew))
  have oB : Hid (((w.alloc (.cells #[.int .i64 0, .int .i64 0, .int .i64 0] 23)).alloc (.cells #[.int .i64 code] 3)).drew.ownsRow w.heap.size 3 1 (.slice (some ⟨w.heap.size + 1, 0, none⟩) 1 1) 1 [.int .i64 code]) := Lib.hid (by
    refine ⟨rfl, .inr ⟨w.heap.size + 1, 1, #[.int .i64 code], rfl, by omega, ?_, Nat.le_refl _, by unfold maxLen; omega, rfl, rfl⟩⟩
    have e := heap_alloc_new (w.alloc (.cells #[.int .i64 0, .int .i64 0, .int .i64 0] 23)) (.cells #[.int .i64 code] 3)
    rw [World.size_alloc] at e
    exact e)
  have zB : Hid (Rec ((w.alloc (.cells #[.int .i64 0, .int .i64 0, .int .i64 0] 23)).alloc (.cells #[.int .i64 code] 3)).drew w.heap.size ⟨0, 0, 0⟩) := Lib.hid (((Rec.laid w ⟨0, 0, 0⟩).alloc (.cells #[.int .i64 code] 3)).below (Below.refl _ _).drew)
  have zC : Hid (Rec ((w.alloc (.cells #[.int .i64 code] 3)).alloc (.cells #[.int .i64 0, .int .i64 0, .int .i64 0] 23)).drew (w.heap.size + 1) ⟨0, 0, 0⟩) := Lib.hid (by
    have e := Rec.laid (w.alloc (.cells #[.int .i64 code] 3)) ⟨0, 0, 0⟩
    rw [World.size_alloc] at e
    exact e.below (Below.refl _ _).drew)
  go_wp2_with fail
  go_cut [6] (fun v wx => ∃ p, v = .pointer (some ⟨p, 0, none⟩) ∧ Aside (Rec wx p ⟨f', b', g'⟩ ∧ Below w.heap.size w wx ∧ w.heap.size ≤ p))
  case first =>
    obtain ⟨a0, b0, c0, d0, _⟩ := kS (Below.refl w.heap.size w)
    obtain ⟨a1, b1, c1, d1, _⟩ := kS ((Below.refl w.heap.size w).alloc (Nat.le_refl _) (.cells #[.int .i64 code] 3))
    obtain ⟨a2, b2, c2, d2, _⟩ := kS ((Below.refl w.heap.size w).alloc (Nat.le_refl _) (.cells #[.int .i64 0, .int .i64 0, .int .i64 0] 23))
    obtain ⟨a3, b3, c3, d3, _⟩ := kS (((Below.refl w.heap.size w).alloc (Nat.le_refl _) (.cells #[.int .i64 0, .int .i64 0, .int .i64 0] 23)).alloc (by simp) (.cells #[.int .i64 code] 3))
    obtain ⟨a4, b4, c4, d4, _⟩ := kS (((Below.refl w.heap.size w).alloc (Nat.le_refl _) (.cells #[.int .i64 code] 3)).alloc (by simp) (.cells #[.int .i64 0, .int .i64 0, .int .i64 0] 23))
    clear kA
    go_region_law (first
      | (go_simp; have RBx := RB; (with_reducible refine (HA.out w1 gg _ cap bw1 N1).mono ?_); rintro e w3 ⟨rfl, b3⟩; have bw3 := bw1.trans (b3.mono bw1.size); have RB3 := RB.below b3; have t0 := RB3.c0; have t1 := RB3.c1; have t2 := RB3.c2; have j0 := RB3.z 0; have j1 := RB3.z 1; have j2 := RB3.z 2)
      | (go_simp; (with_reducible refine (HA.out (w1.alloc (.cells #[.int .i64 0, .int .i64 0, .int .i64 0] 23)) gg _ cap (bw1.alloc bw1.size _) ((N1.alloc (Nat.le_refl _) _).more (by simp))).mono ?_); rintro e w3 ⟨rfl, b3⟩; have bw3 := (bw1.alloc bw1.size (.cells #[.int .i64 0, .int .i64 0, .int .i64 0] 23)).trans (b3.mono (bw1.alloc bw1.size (.cells #[.int .i64 0, .int .i64 0, .int .i64 0] 23)).size); have RB3 := (Rec.laid w1 ⟨0, 0, 0⟩).below b3; have t0 := RB3.c0; have t1 := RB3.c1; have t2 := RB3.c2; have j0 := RB3.z 0; have j1 := RB3.z 1; have j2 := RB3.z 2)
      | (go_simp; (with_reducible refine (HA.out w1 gg _ cap bw1 N1).mono ?_); rintro e w3 ⟨rfl, b3⟩; have bw3 := bw1.trans (b3.mono bw1.size))
      | (refine step_append_lies _ (by rfl) _ _ _ (by rfl) w.heap.size 3 i0 _ 1 8 Tryd.underlying28 hi0 hz0 hz1 hz2 rfl (by omega) (.slice (some ⟨w.heap.size, 0, none⟩) 1 1) 1 [.int .i64 code] (by rfl) oA.out ad m c (ys.map (Value.int .i64)) (by rfl) hlen (HN.out _ bA) hone h0 (by unfold maxLen; omega) (by omega) (by simp <;> omega) (w.heap.size + 1) (by simp <;> omega) ?_; intro gg cap w1 hown1 hgrow hat hlt1; have bw1 : Below w.heap.size w w1 := HB.out _ _ _ w.heap.size bA hgrow rfl (Nat.le_refl _); have hs1 := kS bw1; obtain ⟨m0, m1, m2, m3, _⟩ := hs1; have hs2 := kS (bw1.alloc bw1.size (.cells #[.int .i64 0, .int .i64 0, .int .i64 0] 23)); obtain ⟨l0, l1, l2, l3, _⟩ := hs2; have N1 : Nums w1 w1.heap.size (some ⟨gg, 0, none⟩) (1 + m) (code :: ys) := nums_at hown1)
      | (refine step_append_lies _ (by rfl) _ _ _ (by rfl) w.heap.size 3 i0 _ 1 8 Tryd.underlying28 hi0 hz0 hz1 hz2 rfl (by omega) (.slice (some ⟨w.heap.size + 1, 0, none⟩) 1 1) 1 [.int .i64 code] (by rfl) oB.out ad m c (ys.map (Value.int .i64)) (by rfl) hlen (HN.out _ bB) hone h0 (by unfold maxLen; omega) (by omega) (by simp <;> omega) (w.heap.size + 2) (by simp <;> omega) ?_; intro gg cap w1 hown1 hgrow hat hlt1; have bw1 : Below w.heap.size w w1 := HB.out _ _ _ (w.heap.size + 1) bB hgrow rfl (Nat.le_succ _); have hs1 := kS bw1; obtain ⟨m0, m1, m2, m3, _⟩ := hs1; have hs2 := kS (bw1.alloc bw1.size (.cells #[.int .i64 0, .int .i64 0, .int .i64 0] 23)); obtain ⟨l0, l1, l2, l3, _⟩ := hs2; have N1 : Nums w1 w1.heap.size (some ⟨gg, 0, none⟩) (1 + m) (code :: ys) := nums_at hown1; have RB : Rec w1 w.heap.size ⟨0, 0, 0⟩ := (hgrow.block w.heap.size (by simp <;> omega) (by simp [Value.ownBlock])).trans zB.out)
      | (refine step_append_lies _ (by rfl) _ _ _ (by rfl) w.heap.size 3 i0 _ 1 8 Tryd.underlying28 hi0 hz0 hz1 hz2 rfl (by omega) (.slice (some ⟨w.heap.size, 0, none⟩) 1 1) 1 [.int .i64 code] (by rfl) oC.out ad m c (ys.map (Value.int .i64)) (by rfl) hlen (HN.out _ bC) hone h0 (by unfold maxLen; omega) (by omega) (by simp <;> omega) (w.heap.size + 2) (by simp <;> omega) ?_; intro gg cap w1 hown1 hgrow hat hlt1; have bw1 : Below w.heap.size w w1 := HB.out _ _ _ w.heap.size bC hgrow rfl (Nat.le_refl _); have hs1 := kS bw1; obtain ⟨m0, m1, m2, m3, _⟩ := hs1; have hs2 := kS (bw1.alloc bw1.size (.cells #[.int .i64 0, .int .i64 0, .int .i64 0] 23)); obtain ⟨l0, l1, l2, l3, _⟩ := hs2; have N1 : Nums w1 w1.heap.size (some ⟨gg, 0, none⟩) (1 + m) (code :: ys) := nums_at hown1; have RB : Rec w1 (w.heap.size + 1) ⟨0, 0, 0⟩ := (hgrow.block (w.heap.size + 1) (by simp <;> omega) (by simp [Value.ownBlock])).trans zC.out))
    all_goals
      go_wp2
      go_meet
      first
        | exact ⟨_, rfl, ⟨((RB3.s0 f').s1 b').s2 g', ((bw3.setCell (by simp) _).setCell (by simp) _).setCell (by simp) _, by omega⟩⟩
        | exact ⟨_, rfl, ⟨((RB3.s0 f').s1 b').s2 g', ((bw3.setCell bw1.size _).setCell bw1.size _).setCell bw1.size _, bw1.size⟩⟩
        | exact ⟨_, rfl, ⟨Rec.laid w3 ⟨f', b', g'⟩, bw3.alloc bw3.size _, bw3.size⟩⟩
  case rest =>
    obtain ⟨p, rfl, h⟩ := hcut
    have H6 := Lib.hid h.out
    have hs := kS h.out.2.1
    have hbw := (h.out.2.1.cell (p := ⟨pb, 0, none⟩) lb).trans hbk
    obtain ⟨x0, x1, x2, _, _⟩ := hs
    have y0 := h.out.1.c0
    have y1 := h.out.1.c1
    have y2 := h.out.1.c2
    have v0 := h.out.1.z 0
    have v1 := h.out.1.z 1
    have nb : pb ≠ p := by have := h.out.2.2; omega
    have na : pa ≠ p := by have := h.out.2.2; omega
    have ef : (f != f) = false := by simp
    have eb : (b != b) = false := by simp
    have eg : (g != g) = false := by simp
    clear h kS kA HB hlen hone HN bA bB bC oA oB oC zB zC W1o HY HR HT HA hc hbk
    cases bk
    · have hz := HZ.out
      simp only [Bool.false_eq_true, if_false, At.R.mk.injEq] at hz
      obtain ⟨rfl, rfl, rfl⟩ := hz
      clear HZ
      go_wp2
      go_ret
      exact ⟨rfl, H6.out.2.1⟩
    · have hz := HZ.out
      simp only [if_true, At.R.mk.injEq] at hz
      obtain ⟨rfl, rfl, rfl⟩ := hz
      clear HZ
      go_wp2
      go_ret
      exact ⟨rfl, (H6.out.2.1.setCell H6.out.2.2 _).setCell H6.out.2.2 _⟩

end Go.Proofs.YtdeicbciiabdfaaDoor
