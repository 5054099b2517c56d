/-
  What Window returns.
-/
import Derived.Test.YtgmgnlgolhjhmaaDoorSbKit
import Derived.Test.YtgmgnlgolhjhmaaDoorCrFit
import Derived.Test.YtgmgnlgolhjhmaaDoorGrThree
namespace Go.Proofs.YtgmgnlgolhjhmaaDoor
open Go.RowKit Go.Shelf Cr Gd
attribute [local go_sem] Oper.semAt_some

/-- The window that the chapter defines. -/
def winR (L : List (List C)) (W H : Int) (G : List (List C)) (back : Int) : Res :=
  if gE W H G ≠ 0 then bad 1 else if ¬ (0 ≤ back ∧ back ≤ L.length) then bad 2 else if Sb.errs check (Sb.seen L H back) ≠ 0 then bad (Sb.errs check (Sb.seen L H back)) else ⟨0, W, H, Sb.rows (fun l => fit l W.toNat) L G H back, []⟩

theorem res22 {fn : Func} {p u : Tmp} (h : fn.results = #[.cell p 35, .cell u 26]) (tmps : Array Value) (w : World) (k j : Nat) (x y z : Value) (e : Int) (hp : tmps.getD p undef = .pointer (some ⟨k, 0, none⟩)) (hu : tmps.getD u undef = .pointer (some ⟨j, 0, none⟩)) (hk : w.heap[k]? = some (.cells #[x, y, z] 35)) (hj : w.cell? ⟨j, 0, none⟩ = some (.int .i64 e)) :
    (results fn tmps).run Tryd.prog w = .ok (.tuple #[.agg #[x, y, z], .int .i64 e]) w := by
  have hp' : tmps[p]?.getD undef = .pointer (some ⟨k, 0, none⟩) := by simpa using hp
  have hu' : tmps[u]?.getD undef = .pointer (some ⟨j, 0, none⟩) := by simpa using hu
  have h2 : (loadVar 26 ⟨j, 0, none⟩).run Tryd.prog w = .ok (.int .i64 e) w := by simp [loadVar, go_sem, hj]
  simp [results, h, hp', hu', asAddr, run_loadVar_row w k 35 35 #[x, y, z] (0, 0) _ hk Tryd.underlying35 rfl (by kernel_rfl), h2]

/-- The result's two variables hold a grid and an error. -/
theorem ends22 {w : World} {k j : Nat} {W H : Int} {A : Option Addr} {n c : Nat} {u : Value} (hk : Kg w k W H A n c) (hj : Boxed w j 26 u) (hne : k ≠ j) (W' H' : Int) (A' : Option Addr) (n' c' : Nat) (e : Int) :
    Kg ((g3 w k W' H' (.slice A' n' c')).setCell ⟨j, 0, none⟩ (.int .i64 e)) k W' H' A' n' c' ∧ Boxed ((g3 w k W' H' (.slice A' n' c')).setCell ⟨j, 0, none⟩ (.int .i64 e)) j 26 (.int .i64 e) := by
  have h1 := hk.put W' H' A' n' c'
  have h2 : Boxed (g3 w k W' H' (.slice A' n' c')) j 26 u := (g3_other w k W' H' _ j (Ne.symm hne)).trans hj
  exact ⟨h1.other hne _, h2.set _⟩

theorem errs_append {R : Type} (ck : R → Nat) (a b : List R) : Sb.errs ck (a ++ b) = if Sb.errs ck a ≠ 0 then Sb.errs ck a else Sb.errs ck b := by
  induction a with
  | nil => simp [Sb.errs]
  | cons x a ih =>
    by_cases h : ck x = 0 <;> simp [Sb.errs, h, ih]
theorem errs_of_prefix {R : Type} (ck : R → Nat) {l ini : List R} {x : R} (h : ini ++ [x] <+: l) (h0 : ∀ y ∈ ini, ck y = 0) (hx : ck x ≠ 0) : Sb.errs ck l = ck x := by
  obtain ⟨r, rfl⟩ := h
  refine Sb.errs_take ck _ ini.length x ?_ ?_ hx
  · simp
  · intro y hy
    rw [List.append_assoc, List.take_left'  rfl] at hy
    exact h0 y hy

/-- An append whose run is known, as a step of a region within a fence. -/
theorem stepIn_run {F : Fence} {N : Nat} {ops : Array Oper} {o : Oper} {a : Act} {K : Act → World → Prop} {Q : Exit → Act → World → Prop} {E : Prop} {w : World} (hgd : o.guard = none) (s x : Operand) (t : TypeId)
    (ho : o.op = .call { callee := .builtin .append, args := #[s, x], argTypes := #[t, t] }) (v u r : Value) (w' : World) (hs : a.eval s = v) (hx : a.eval x = u) (hrun : (Builtin.append_ #[t, t] o.type #[v, u]).run Tryd.prog w = .ok r w') (hK : K (a.put o.dst r) w') :
    if Region.wanted o (yielded ops a.tmps) = true then Oper.wpIn F N Tryd.prog o a w K Q else E := by
  have hw : Region.wanted o (yielded ops a.tmps) = true := by simp [Region.wanted, hgd]
  rw [if_pos hw]
  unfold Oper.wpIn
  refine ⟨by simp [Oper.about, ho, resolve, Target.leads, Sem.run_pure], ?_⟩
  rw [Oper.semAt_plain F _ _ (by rw [ho]; intro c hc; cases hc)]
  simp [execOp, ho, resolve, invoke, builtin, hs, hx, hrun, Result.andThen]
  exact hK

/-- Behind the call that makes the row: its header is laid, it is appended, and the box is stored into. -/
theorem push_row {w0 w5 w6 : World} {A' : Option Addr} {m c' : Nat} {LL : List (List C)} {A6 : Option Addr} {n6 c6 : Nat} {x : List C} {B : Nat} {p q r k : Nat} {A : Option Addr} {n c o s : Nat} {v h : Int} {A2 : Option Addr} {n2 c2 : Nat} {kg kr ke : Nat}
    (hG : GR w0 w5 (.slice A' m c') LL) (hm : LL.length = m) (hm2 : m ≤ 1000) (hB : Boxed w5 B 22 (.slice A' m c')) (hBge : w0.heap.size ≤ B) (hC : Cap w5 p q r k A n c o s v h A2 n2 c2) (lp : B < p) (lq : B < q) (lr : B < r) (lk : B < k)
    (hkg : Kg w5 kg v h A2 n2 c2) (hkr : Kg w5 kr 0 0 none 0 0) (hke : Boxed w5 ke 26 (.int .i64 0)) (h1 : kg < B) (h2 : kr < B) (h3 : ke < B)
    (hg6 : GivesC w5 w6 A6 n6 c6 x) (hf6 : Fr w5 A6) (hn6 : n6 ≤ 1000) :
    ∃ (A7 : Option Addr) (c7 : Nat) (w7 : World), (∀ ty, (Builtin.append_ #[22, 22] ty #[.slice A' m c', .slice (some ⟨w6.heap.size, 0, none⟩) 1 1]).run Tryd.prog (w6.alloc (.cells #[.slice A6 n6 c6] 25)) = .ok (.slice A7 (m + 1) c7) w7) ∧
      w7.cell? ⟨B, 0, none⟩ = some (.slice A' m c') ∧ w7.frozen? ⟨B, 0, none⟩ = false ∧
      Aside (Boxed (w7.setCell ⟨B, 0, none⟩ (.slice A7 (m + 1) c7)) B 22 (.slice A7 (m + 1) c7) ∧ GR w0 (w7.setCell ⟨B, 0, none⟩ (.slice A7 (m + 1) c7)) (.slice A7 (m + 1) c7) (LL ++ [x]) ∧ Cap (w7.setCell ⟨B, 0, none⟩ (.slice A7 (m + 1) c7)) p q r k A n c o s v h A2 n2 c2 ∧
        Kg (w7.setCell ⟨B, 0, none⟩ (.slice A7 (m + 1) c7)) kg v h A2 n2 c2 ∧ Kg (w7.setCell ⟨B, 0, none⟩ (.slice A7 (m + 1) c7)) kr 0 0 none 0 0 ∧ Boxed (w7.setCell ⟨B, 0, none⟩ (.slice A7 (m + 1) c7)) ke 26 (.int .i64 0) ∧
        KeepsOthers w5 (w7.setCell ⟨B, 0, none⟩ (.slice A7 (m + 1) c7)) ∧ Below w0.heap.size w5 (w7.setCell ⟨B, 0, none⟩ (.slice A7 (m + 1) c7))) := by
  have b6 := hg6.2.2
  have G6 := hG.below b6
  have hin := GivesIn hg6.1 hg6.2.1 hn6
  have hoff := Off.fresh (m := n6) (c := c6) hG hf6
  have hy := RdQ.one hin hoff
  have Gx := G6.alloc (.cells #[.slice A6 n6 c6] 25)
  have bx := (Below.refl w6.heap.size w6).alloc (Nat.le_refl _) (.cells #[.slice A6 n6 c6] 25)
  have b56 := b6.trans (bx.mono b6.size)
  have hBx := bx_below hB b56
  have hCx := hC.below b56
  have hkgx := hkg.below b56
  have hkrx := hkr.below b56
  have hkex := bx_below hke b56
  have kx : KeepsOthers w5 (w6.alloc (.cells #[.slice A6 n6 c6] 25)) := keeps_below b56
  have hb5 := hG.bel
  generalize w6.alloc (.cells #[.slice A6 n6 c6] 25) = X at hy Gx b56 hBx hCx hkgx hkrx hkex kx ⊢
  obtain ⟨A7, c7, w7, hrun, hG7, hg7, _⟩ := run_joinR 22 w0 X _ LL [x] _ 1 1 Gx hy (fun e => by cases e) (by simp; omega)
  obtain ⟨A7', c7', w7', hrun', _⟩ := run_joinR 3 w0 X _ LL [x] _ 1 1 Gx hy (fun e => by cases e) (by simp; omega)
  have hll : LL.length + ([x] : List (List C)).length = m + 1 := by rw [hm]; rfl
  rw [hll] at hrun hG7
  have hB7 : Boxed w7 B 22 (.slice A' m c') := hBx.kept hg7 (Gx.ne hBx (rows_no _ _ (by decide)))
  have hC7 := hCx.grown Gx hg7
  have hkg7 := hkgx.grown Gx hg7
  have hkr7 := hkrx.grown Gx hg7
  have hke7 : Boxed w7 ke 26 (.int .i64 0) := hkex.kept hg7 (Gx.ne hkex (rows_no _ _ (by decide)))
  have hb7 : Below w0.heap.size w5 w7 := (b56.mono hb5.size).grown hg7 (Nat.le_trans hb5.size b56.size) (fun j e => (Gx.own j e).1)
  refine ⟨A7, c7, w7, fun ty => hrun, hB7.cell, hB7.frozen, ⟨hB7.set _, hG7.box hB7 (by decide) (fun s e => by cases e) hBge _, hC7.other lp lq lr lk _, hkg7.other (by omega) _, hkr7.other (by omega) _, Boxed.other hke7 (by omega) _, (kx.trans (Gx.keeps hg7)).trans (KeepsOthers.setCell _ _ _), hb7.setCell (p := ⟨B, 0, none⟩) hBge _⟩⟩

set_option maxHeartbeats 8000000 in
set_option maxRecDepth 100000 in
theorem window_any (A : Option Addr) (n c : Nat) (L : List (List C)) (W H : Int) (A2 : Option Addr) (n2 c2 : Nat) (G : List (List C)) (back : Int) (w : World) (hl : RdR w A n L) (hn : n ≤ c) (hnm : n ≤ 9223372036854775807) (hnil : A = none → c = 0) (hg : RdR w A2 n2 G) (hn2 : n2 ≤ c2) (hn2m : n2 ≤ 9223372036854775807) (hsl : SmR L) (hsg : SmR G) (hT : Lib.Utf8Tabs 0 1 w) :
    Calls Tryd.prog 22 #[.slice A n c, .agg #[.int .i64 W, .int .i64 H, .slice A2 n2 c2], .int .i64 back] w (Out2 w (winR L W H G back)) := by
  obtain ⟨V, hV⟩ : ∃ V, ((w.alloc (.cells #[.int .i64 W, .int .i64 H, .slice A2 n2 c2] 35)).alloc (.cells #[.int .i64 0, .int .i64 0, .slice none 0 0] 35)).alloc (.cells #[.int .i64 0] 26) = V := ⟨_, rfl⟩
  have hall : Kg V w.heap.size W H A2 n2 c2 ∧ Kg V (w.heap.size + 1) 0 0 none 0 0 ∧ Boxed V (w.heap.size + 1 + 1) 26 (.int .i64 0) ∧ Below w.heap.size w V := by
    subst hV
    obtain ⟨h1, h2, b1⟩ := two_in w W H A2 n2 c2
    have s2 : ((w.alloc (.cells #[.int .i64 W, .int .i64 H, .slice A2 n2 c2] 35)).alloc (.cells #[.int .i64 0, .int .i64 0, .slice none 0 0] 35)).heap.size = w.heap.size + 1 + 1 := by simp
    generalize (w.alloc (.cells #[.int .i64 W, .int .i64 H, .slice A2 n2 c2] 35)).alloc (.cells #[.int .i64 0, .int .i64 0, .slice none 0 0] 35) = w2 at h1 h2 b1 s2 ⊢
    have b3 := (Below.refl w2.heap.size w2).alloc (Nat.le_refl _) (.cells #[.int .i64 0] 26)
    have h3 := Boxed.new w2 26 (.int .i64 0)
    rw [s2] at h3
    exact ⟨h1.below b3, h2.below b3, h3, b1.trans (b3.mono b1.size)⟩
  have KG := Lib.hid hall.1
  have KR := Lib.hid hall.2.1
  have KE := Lib.hid hall.2.2.1
  have BV := Lib.hid hall.2.2.2
  have hlL : L.length = n := hl.1
  have HT := Lib.hid (fun U (h : Below w.heap.size w U) => Utf8Tabs_below hT h)
  have CC := Lib.hid (gcheck_any W H A2 n2 c2 G V (hg.below hall.2.2.2) (by omega) hsg (Utf8Tabs_below hT hall.2.2.2))
  obtain ⟨q, hq⟩ : ∃ q, gE W H G = q := ⟨_, rfl⟩
  rw [hq] at CC
  clear hall hT
  by_cases hq0 : q = 0
  · by_cases hbk : 0 ≤ back ∧ back ≤ (n : Int)
    · subst hq0
      obtain ⟨v, h, rfl, rfl, hgood⟩ := gE_good hq
      obtain ⟨bk, rfl⟩ : ∃ bk : Nat, back = (bk : Int) := ⟨back.toNat, by omega⟩
      have hv1 := hgood.1
      have hv2 := hgood.2.1
      have hh1 := hgood.2.2.1
      have hh2 := hgood.2.2.2.1
      have hGl : G.length = h := hgood.2.2.2.2.1
      have hnh : n2 = h := by have := hg.1; omega
      subst hnh
      obtain ⟨b2, off2, rfl⟩ := hg.addr (by omega)
      obtain ⟨o, ho⟩ : ∃ o, n - bk = o := ⟨_, rfl⟩
      obtain ⟨s, hs⟩ : ∃ s, min bk n2 = s := ⟨_, rfl⟩
      obtain ⟨g, hgg⟩ : ∃ g, n2 - s = g := ⟨_, rfl⟩
      obtain ⟨hsL, eL, cL⟩ := hl.heads hsl
      obtain ⟨hsG, eG, cG⟩ := hg.heads hsg
      have lL : hsL.length = n := by rw [← hlL, ← eL, List.length_map]
      have lG : hsG.length = n2 := by rw [← hGl, ← eG, List.length_map]
      obtain ⟨xs, hxs⟩ : ∃ xs, (hsL.drop o).take s = xs := ⟨_, rfl⟩
      obtain ⟨ys, hys⟩ : ∃ ys, hsG.take g = ys := ⟨_, rfl⟩
      have lx : xs.length = s := by rw [← hxs, List.length_take, List.length_drop]; omega
      have ly : ys.length = g := by rw [← hys, List.length_take]; omega
      have hX : ∀ (j : Nat) (x : Hd w), xs[j]? = some x → ∃ b off, A = some ⟨b, off, none⟩ ∧ b < w.heap.size ∧ w.cell? ⟨b, off + o + j, none⟩ = some x.1.1 := fun j x hj => by
        rw [← hxs, List.getElem?_take] at hj
        split at hj
        · rw [List.getElem?_drop] at hj
          obtain ⟨b, off, e, hb, hc⟩ := cL _ x hj
          exact ⟨b, off, e, hb, by rw [Nat.add_assoc]; exact hc⟩
        · cases hj
      have hY0 : ∀ (j : Nat) (x : Hd w), ys[j]? = some x → b2 < w.heap.size ∧ w.cell? ⟨b2, off2 + j, none⟩ = some x.1.1 := fun j x hj => by
        rw [← hys, List.getElem?_take] at hj
        split at hj
        · obtain ⟨b, off, e, hb, hc⟩ := cG _ x hj
          injection e with e
          injection e with e1 e2
          subst e1 e2
          exact ⟨hb, hc⟩
        · cases hj
      have exL : xs.map (fun x => x.1.2) = Sb.seen L (n2 : Int) (bk : Int) := by
        unfold Sb.seen
        rw [← hxs, ← eL, List.map_take, List.map_drop, List.length_map, lL]
        rw [show n - ((bk : Int)).toNat = o by omega]
        rw [show ((n2 : Int)).toNat = n2 by omega]
        have e1 : (List.drop o (List.map (fun x : Hd w => x.1.2) hsL)).length = n - o := by rw [List.length_drop, List.length_map, lL]
        rcases Nat.lt_or_ge bk n2 with hlt | hge
        · rw [List.take_of_length_le (by omega), List.take_of_length_le (by omega)]
        · rw [show s = n2 by omega]
      have eyL : ys.map (fun x => x.1.2) = G.take ((n2 : Int) - (bk : Int)).toNat := by
        rw [← hys, ← eG, List.map_take, show ((n2 : Int) - (bk : Int)).toNat = g by omega]
      have hyg : ∀ y ∈ ys, check y.1.2 = 0 ∧ fit y.1.2 v = y.1.2 := fun y hy => by
        have h1 : y.1.2 ∈ G.take ((n2 : Int) - (bk : Int)).toNat := by rw [← eyL]; exact List.mem_map.2 ⟨y, hy, rfl⟩
        have h2 := hgood.2.2.2.2.2 _ (List.mem_of_mem_take h1)
        exact ⟨hgood.chk (List.mem_of_mem_take h1), by rw [← h2.1]; exact fit_self h2.2⟩
      -- what the loop's ends say
      have HOK : Hid ((∀ y ∈ xs ++ ys, check y.1.2 = 0) → winR L (v : Int) (n2 : Int) G (bk : Int) = ⟨0, v, n2, (xs ++ ys).map (fun y => fit y.1.2 v), []⟩) := Lib.hid (fun hall => by
        have h0 : Sb.errs check (Sb.seen L (n2 : Int) (bk : Int)) = 0 := by
          rw [Sb.errs_zero, ← exL]
          intro x hx
          obtain ⟨y, hy, rfl⟩ := List.mem_map.1 hx
          exact hall y (List.mem_append.2 (.inl hy))
        unfold winR
        rw [hq, if_neg (by omega), hlL, if_neg (by omega), h0, if_neg (by omega)]
        unfold Sb.rows
        rw [← exL, ← eyL, List.map_append, List.map_map, Int.toNat_natCast]
        congr 2
        refine (List.map_congr_left fun y hy => ?_).symm
        exact (hyg y hy).2)
      have HBAD : Hid (∀ (ini : List (Hd w)) (x : Hd w), ini ++ [x] <+: xs ++ ys → (∀ y ∈ ini, check y.1.2 = 0) → check x.1.2 ≠ 0 → winR L (v : Int) (n2 : Int) G (bk : Int) = bad (check x.1.2)) := Lib.hid (fun ini x hp hi hx => by
        have h1 : Sb.errs check ((xs ++ ys).map (fun x => x.1.2)) = check x.1.2 := by
          refine errs_of_prefix check (ini := ini.map (fun x => x.1.2)) ?_ ?_ hx
          · have := hp.map (fun x => x.1.2)
            rwa [List.map_append] at this
          · intro y hy
            obtain ⟨z, hz, rfl⟩ := List.mem_map.1 hy
            exact hi z hz
        have h2 : Sb.errs check (ys.map (fun x => x.1.2)) = 0 := by
          rw [Sb.errs_zero]
          intro x hx
          obtain ⟨y, hy, rfl⟩ := List.mem_map.1 hx
          exact (hyg y hy).1
        have h3 : Sb.errs check (Sb.seen L (n2 : Int) (bk : Int)) = check x.1.2 := by
          rw [List.map_append, errs_append, exL, h2] at h1
          split at h1
          · exact h1
          · exact absurd h1.symm hx
        unfold winR
        rw [hq, if_neg (by omega), hlL, if_neg (by omega), h3, if_pos hx])
      have CV := Lib.hid (fun U => visible_any A n c o s (v : Int) (n2 : Int) (some ⟨b2, off2, none⟩) n2 c2 (bk : Int) U (by omega) (by omega) hnm)
      have STOPS := Lib.hid (fun (p q r k : Nat) (w4 : World) (hbel : Below w.heap.size w w4) (hC : Cap w4 p q r k A n c o s (v : Int) ((g + s : Nat) : Int) (some ⟨b2, off2, none⟩) n2 c2) =>
        (fun l J Jx W1 hW _ _ hY h0 => visible1_in Fence.wide 5 trivial rfl (by omega) l p q r k A n c o s g (v : Int) b2 off2 n2 c2 w xs ys lx ly (by omega) hn hnm hnil (by omega) hn2 hn2m hX hY0 J Jx hY W1 (hbel.trans (hW.mono hbel.size)) (hC.below hW) h0 :
          SeqStopsK Fence.wide 5 Tryd.prog 47 #[.pointer (some ⟨p, 0, none⟩), .pointer (some ⟨q, 0, none⟩), .pointer (some ⟨r, 0, none⟩), .pointer (some ⟨k, 0, none⟩)] (fun x : Hd w => #[x.1.1]) (Kp w p q r k A n c o s (v : Int) ((g + s : Nat) : Int) (some ⟨b2, off2, none⟩) n2 c2) (fun zs => zs = xs ++ ys) (fun pre => pre <+: xs ++ ys) (xs ++ ys).length w4))
      have hgs : ((g + s : Nat) : Int) = (n2 : Int) := by omega
      rw [hgs] at STOPS
      have hlen : (xs ++ ys).length = n2 := by rw [List.length_append]; omega
      have HLEN := Lib.hid hlen
      have z1 : (0 : Int) ≤ (bk : Int) := by omega
      have z2 : (bk : Int) ≤ (n : Int) := by omega
      have z3 : (n2 : Int) ≤ 60 := by omega
      have z4 : decide ((bk : Int) < 0) = false := decide_eq_false (by omega)
      have z5 : ¬ (n : Int) < (bk : Int) := by omega
      clear hq hbk hgood hGl hl hg eL eG cL cG lL lG hxs hys lx ly hX hY0 exL eyL hyg hgs hlen ho hs hgg hsl hsg hlL hnil
      subst hV
      refine (callsIn_wide (n := 6)).1 ?_
      refine callsIn_of_wp_marks Tryd.func22 rfl trivial ?_ rfl
      simp only [Tryd.ntmps22, List.size_toArray, List.length_cons, List.length_nil, Nat.reduceAdd, Nat.reduceSub, Array.replicate_succ, Array.replicate_zero, List.push_toArray, List.append_toArray, List.nil_append, List.cons_append]
      gi_wp2_with fail
      refine ⟨trivial, (callsIn_wide.2 CC.out).mono ?_⟩
      rintro e w1 ⟨rfl, b1⟩
      obtain ⟨w2, hmk, hG2, hsz2⟩ := GR.room w1 n2 (by omega)
      have b2' := hG2.bel
      have bx := (Below.refl w2.heap.size w2).alloc (Nat.le_refl _) (.cells #[.slice (some ⟨w1.heap.size, 0, none⟩) 0 n2] 22)
      have BX := Lib.hid (b2'.trans (bx.mono b2'.size))
      have p0 := (KG.out.below b1).c0
      have p1 := (KG.out.below b1).c1
      have p2 := (KG.out.below b1).c2
      have s0 := (KG.out.below (b1.trans (BX.out.mono b1.size))).c0
      have s1 := (KG.out.below (b1.trans (BX.out.mono b1.size))).c1
      have s2 := (KG.out.below (b1.trans (BX.out.mono b1.size))).c2
      have HG2 := Lib.hid hG2
      have HSZ := Lib.hid hsz2
      clear b2' bx hG2 hsz2
      gi_wp2_with fail
      refine ⟨trivial, (callsIn_wide.2 (CV.out _)).mono ?_⟩
      rintro e w4 ⟨p, q, r, k, rfl, hcap, b4, lp, lq, lr, lk⟩
      gi_wp2_with fail
      have b14 := b1.trans ((BX.out.trans (b4.mono BX.out.size)).mono b1.size)
      have BW4 := Lib.hid (BV.out.trans (b14.mono BV.out.size))
      have hszx : (w2.alloc (.cells #[.slice (some ⟨w1.heap.size, 0, none⟩) 0 n2] 22)).heap.size = w2.heap.size + 1 := by simp
      have hh0 : w.heap.size + 1 + 1 < w1.heap.size := (bx_below KE.out b1).lt
      have hw12 : w1.heap.size < w2.heap.size := by have := HSZ.out; omega
      have K4 := Lib.hid (KG.out.below b14)
      have R4 := Lib.hid (KR.out.below b14)
      have E4 := Lib.hid (bx_below KE.out b14)
      have X4 := Lib.hid (bx_below (Boxed.new w2 22 (.slice (some ⟨w1.heap.size, 0, none⟩) 0 n2)) b4)
      have G4 := Lib.hid ((((HG2.out.alloc (.cells #[.slice (some ⟨w1.heap.size, 0, none⟩) 0 n2] 22)).below b4).rebase (BV.out.trans (b1.mono BV.out.size)) : GR w w4 (.slice (some ⟨w1.heap.size, 0, none⟩) 0 n2) []))
      have hsz4 := b4.size
      rw [hszx] at lp lq lr lk hsz4
      clear p0 p1 p2 s0 s1 s2
      refine wpIn_rangeFunc_ownF rfl (by omega) (gf := 47) (lb := #[.pointer (some ⟨p, 0, none⟩), .pointer (some ⟨q, 0, none⟩), .pointer (some ⟨r, 0, none⟩), .pointer (some ⟨k, 0, none⟩)]) rfl trivial (enters_of Tryd.func47 (by kernel_rfl) rfl)
        (STOPS.out p q r k w4 BW4.out hcap) (fun a b => Kp.trans a b)
        (fun W l o o' hl hh h1 h2 => ⟨belowK_b (w := w4) BW4.out.size W l o o' hl hh h1 h2, fun hc => hc.turn (grownBy_putObj' W l o') (fun r e => by cases e; exact ⟨o, hh, h1⟩)⟩)
        (Below.refl _ _) (fun _ => rfl)
        (fun pre W => (∀ y ∈ pre, check y.1.2 = 0) ∧ (∃ A' c', Boxed W w2.heap.size 22 (.slice A' pre.length c') ∧ GR w W (.slice A' pre.length c') (pre.map (fun y => fit y.1.2 v))) ∧ Cap W p q r k A n c o s (v : Int) (n2 : Int) (some ⟨b2, off2, none⟩) n2 c2 ∧ Kg W w.heap.size (v : Int) (n2 : Int) (some ⟨b2, off2, none⟩) n2 c2 ∧ Kg W (w.heap.size + 1) 0 0 none 0 0 ∧ Boxed W (w.heap.size + 1 + 1) 26 (.int .i64 0))
        (fun c pre W => c = .ret ∧ (∃ ini x, pre = ini ++ [x] ∧ (∀ y ∈ ini, check y.1.2 = 0) ∧ check x.1.2 ≠ 0 ∧ Boxed W (w.heap.size + 1 + 1) 26 (.int .i64 (check x.1.2 : Nat))) ∧ Kg W (w.heap.size + 1) 0 0 none 0 0 ∧ Below w.heap.size w W)
        (fun pre X Y row hs hg hr => by
          obtain ⟨h1, ⟨A', c', h2, h3⟩, h4, h5, h6, h7⟩ := hs
          have hr' := fun r e => (hr r e).2
          exact ⟨h1, ⟨A', c', bx_turn h2 hg hr', h3.turn hg (fun r e => ⟨Nat.le_trans BW4.out.size (hr r e).1, (hr r e).2⟩)⟩, h4.turn hg hr', h5.turn hg hr', h6.turn hg hr', bx_turn h7 hg hr'⟩)
        (fun c pre X Y row hs hg hr => by
          obtain ⟨h1, ⟨ini, x, h2, h3, h4, h5⟩, h6, h7⟩ := hs
          have hr' := fun r e => (hr r e).2
          exact ⟨h1, ⟨ini, x, h2, h3, h4, bx_turn h5 hg hr'⟩, h6.turn hg hr', h7.grown hg h7.size (fun r e => Nat.le_trans BW4.out.size (hr r e).1)⟩)
        ⟨fun y hy => by simp at hy, ⟨_, _, X4.out, G4.out⟩, hcap, K4.out, R4.out, E4.out⟩
        (fun x => { tmps := #[.slice A n c, .agg #[.int .i64 (v : Int), .int .i64 (n2 : Int), .slice (some ⟨b2, off2, none⟩) n2 c2], .int .i64 (bk : Int), undef, .pointer (some ⟨w.heap.size, 0, none⟩), undef, .pointer (some ⟨w.heap.size + 1, 0, none⟩), .pointer (some ⟨w.heap.size + 1 + 1, 0, none⟩), .pointer (some ⟨w2.heap.size, 0, none⟩), x.1.1, undef,
          .agg #[.int .i64 (v : Int), .int .i64 (n2 : Int), .slice (some ⟨b2, off2, none⟩) n2 c2], .int .i64 0, .bool false, undef, .int .i64 (bk : Int), .bool false, .bool false, .int .i64 (bk : Int), .slice A n c, .int .i64 (n : Int), .bool false, .bool false, undef, .pointer (some ⟨w.heap.size, 1, none⟩), .int .i64 (n2 : Int), .slice (some ⟨w1.heap.size, 0, none⟩) 0 n2, .slice A n c,
          .agg #[.int .i64 (v : Int), .int .i64 (n2 : Int), .slice (some ⟨b2, off2, none⟩) n2 c2], .int .i64 (bk : Int), .func (.func 47) #[] #[.pointer (some ⟨p, 0, none⟩), .pointer (some ⟨q, 0, none⟩), .pointer (some ⟨r, 0, none⟩), .pointer (some ⟨k, 0, none⟩)], x.1.1, undef, undef, undef, undef, undef, undef, undef, undef, undef, undef, undef, undef, undef, undef, undef, undef, undef, undef, undef], defers := [] }) ?assign ?body ?done ?stop
      case assign =>
        intro l x W K hK
        gi_wp2
        exact hK
      case body =>
        rintro l pre x W ⟨hck, ⟨A', c', hbx, hGW⟩, hcap', hkg, hkr, hke⟩ hlt
        obtain ⟨Ax, mx, cx, hxv, hrd, hmc, hnilx, hm63⟩ := x.2.1
        have hsx := x.2.2
        obtain ⟨xl, hxl⟩ : ∃ xl, x.1.2 = xl := ⟨_, rfl⟩
        rw [hxl] at hrd hsx
        have HXL := Lib.hid hxl
        dsimp only
        rw [hxv]
        clear hxl hxv
        have hbW := hGW.bel
        have hpre : pre.length < n2 := by rw [← HLEN.out]; exact hlt
        have C1 := Lib.hid (checkRow_any Ax mx cx xl W (hrd.below hbW) hmc hm63 hsx (HT.out W hbW))
        obtain ⟨qq, hqq⟩ : ∃ qq, check xl = qq := ⟨_, rfl⟩
        rw [hqq] at C1
        by_cases h0 : qq = 0
        · subst h0
          have HGW := Lib.hid hGW
          have HBX := Lib.hid hbx
          have HCAP := Lib.hid hcap'
          have HKG := Lib.hid hkg
          have HKR := Lib.hid hkr
          have HKE := Lib.hid hke
          have HCK := Lib.hid hck
          have HQ := Lib.hid hqq
          have HRD := Lib.hid hrd
          have HBW := Lib.hid hbW
          have hfl : fitL xl (v : Int) = fit xl v := by unfold fitL; rw [if_pos ⟨hqq, by omega, by omega⟩, Int.toNat_natCast]
          have C2 := Lib.hid (fun U (h : Below W.heap.size W U) => fit_any Ax mx cx xl (v : Int) U (hrd.below (hbW.trans (h.mono hbW.size))) hmc hm63 hsx (HT.out U (hbW.trans (h.mono hbW.size))))
          rw [hfl] at C2
          have HLM : Hid ((pre.map (fun y : Hd w => fit y.1.2 v)).length = pre.length) := Lib.hid (by simp)
          have HM60 : Hid (pre.length ≤ 1000) := Lib.hid (by omega)
          have HBGE : Hid (w.heap.size ≤ w2.heap.size) := Lib.hid (by omega)
          have HL1 : Hid (w.heap.size < w2.heap.size) := Lib.hid (by omega)
          have HL2 : Hid (w.heap.size + 1 < w2.heap.size) := Lib.hid (by omega)
          have HL3 : Hid (w.heap.size + 1 + 1 < w2.heap.size) := Lib.hid (by omega)
          have HN6 : Hid (∀ (A6 : Option Addr) (n6 c6 : Nat) (w6 : World), (fit xl v).length = n6 → n6 ≤ 1000) := Lib.hid (fun A6 n6 c6 w6 h => by rw [← h, fit_length]; omega)
          clear hGW hbx hcap' hkg hkr hke hck hqq hrd hlt hfl hbW
          gi_wp2_with fail
          refine ⟨trivial, (CallsIn.inRound l (callsIn_wide.2 C1.out)).mono ?_⟩
          rintro e w5 ⟨rfl, b5⟩
          have B5 := Lib.hid b5
          have C25 := Lib.hid (C2.out w5.drew b5.drew)
          have c5 := (bx_below HBX.out b5.drew).cell
          have g5 := (HKG.out.below b5.drew).c0
          have hmx : Tryd.prog.follows .mixedOrders = true := by kernel_rfl
          clear b5
          gi_wp2
          refine wpIn_region_any hmx ?_
          change wpAnyIn _ _ _ _ _ _ _ _ _ (World.drew _)
          refine wpAnyIn_ready (rs := [0, 1, 2]) (by kernel_rfl) (by simp) ?_
          refine AllReadyIn.cons rfl (fun K hK => ?_) ?_
          · go_simp; refine hK _ _ ?_; clear hK K
            refine wpAnyIn_ready (rs := [1, 2]) (by kernel_rfl) (by simp) ?_
            refine AllReadyIn.cons rfl (fun K hK => ?_) ?_
            · go_simp; refine hK _ _ ?_; clear hK K
              refine wpAnyIn_ready (rs := [2]) (by kernel_rfl) (by simp) ?_
              refine AllReadyIn.cons rfl (fun K hK => ?_) AllReadyIn.nil
              go_simp; refine hK _ _ ?_; clear hK K
              refine wpAnyIn_ready (rs := [3]) (by kernel_rfl) (by simp) ?_
              refine AllReadyIn.cons rfl (fun K hK => ?_) AllReadyIn.nil
              go_simp; refine hK _ _ ?_; clear hK K
              refine wpAnyIn_ready (rs := [4]) (by kernel_rfl) (by simp) ?_
              refine AllReadyIn.cons rfl (fun K hK => ?_) AllReadyIn.nil
              go_simp; gi_wp2_with (refine ⟨trivial, ?_⟩; gi_at_call 36; refine (CallsIn.inRound l (callsIn_wide.2 C25.out)).mono ?_; rintro e w6 ⟨A6, n6, c6, rfl, hg6, hf6⟩; obtain ⟨A7, c7, w7, hrun, hc7, hz7, hall7⟩ := push_row (HGW.out.below B5.out.drew) HLM.out HM60.out (bx_below HBX.out B5.out.drew) HBGE.out (HCAP.out.below B5.out.drew) lp lq lr lk (HKG.out.below B5.out.drew) (HKR.out.below B5.out.drew) (bx_below HKE.out B5.out.drew) HL1.out HL2.out HL3.out hg6 hf6 (HN6.out A6 n6 c6 w6 hg6.1.1); have hc6 := (bx_below (bx_below HBX.out B5.out.drew) hg6.2.2).cell; have hc6x := (bx_below (bx_below (bx_below HBX.out B5.out.drew) hg6.2.2) ((Below.refl w6.heap.size w6).alloc (Nat.le_refl _) (.cells #[.slice A6 n6 c6] 25))).cell; have HALL := Lib.hid hall7.out; have HRUN := Lib.hid hrun; clear hg6 hf6 hall7 hrun); try (refine hK _ _ ?_; clear hK K)
              refine wpAnyIn_ready (rs := [5]) (by kernel_rfl) (by simp) ?_
              refine AllReadyIn.cons rfl (fun K hK => ?_) AllReadyIn.nil
              go_simp; refine hK _ _ ?_; clear hK K
              refine wpAnyIn_ready (rs := [6]) (by kernel_rfl) (by simp) ?_
              refine AllReadyIn.cons rfl (fun K hK => ?_) AllReadyIn.nil
              refine stepIn_run (by rfl) (.tmp 38) (.tmp 43) 22 (by rfl) _ _ _ _ (by rfl) (by rfl) (HRUN.out _) ?_; refine hK _ _ ?_; clear hK K
              refine wpAnyIn_ready (rs := [7]) (by kernel_rfl) (by simp) ?_
              refine AllReadyIn.cons rfl (fun K hK => ?_) AllReadyIn.nil
              go_simp; refine hK _ _ ?_; clear hK K
              refine wpAnyIn_done (by kernel_rfl) ?_ _
              gi_wp2
              obtain ⟨a1, a2, a3, a4, a5, a6, a7, a8⟩ := HALL.out
              refine ⟨(keeps_below B5.out.drew).trans a7, ⟨(B5.out.drew.mono HBW.out.size).trans a8, fun _ => a3⟩, ?_, ⟨A7, c7, ?_, ?_⟩, a3, a4, a5, a6⟩
              · intro y hy
                rcases List.mem_append.1 hy with hy | hy
                · exact HCK.out y hy
                · obtain rfl : y = x := by simpa using hy
                  rw [HXL.out]; exact HQ.out
              · rw [List.length_append]; exact a1
              · rw [List.length_append, List.map_append, List.map_cons, HXL.out]; exact a2
            refine AllReadyIn.cons rfl (fun K hK => ?_) AllReadyIn.nil
            go_simp; refine hK _ _ ?_; clear hK K
            refine wpAnyIn_ready (rs := [1, 3]) (by kernel_rfl) (by simp) ?_
            refine AllReadyIn.cons rfl (fun K hK => ?_) ?_
            · go_simp; refine hK _ _ ?_; clear hK K
              refine wpAnyIn_ready (rs := [3]) (by kernel_rfl) (by simp) ?_
              refine AllReadyIn.cons rfl (fun K hK => ?_) AllReadyIn.nil
              go_simp; refine hK _ _ ?_; clear hK K
              refine wpAnyIn_ready (rs := [4]) (by kernel_rfl) (by simp) ?_
              refine AllReadyIn.cons rfl (fun K hK => ?_) AllReadyIn.nil
              go_simp; gi_wp2_with (refine ⟨trivial, ?_⟩; gi_at_call 36; refine (CallsIn.inRound l (callsIn_wide.2 C25.out)).mono ?_; rintro e w6 ⟨A6, n6, c6, rfl, hg6, hf6⟩; obtain ⟨A7, c7, w7, hrun, hc7, hz7, hall7⟩ := push_row (HGW.out.below B5.out.drew) HLM.out HM60.out (bx_below HBX.out B5.out.drew) HBGE.out (HCAP.out.below B5.out.drew) lp lq lr lk (HKG.out.below B5.out.drew) (HKR.out.below B5.out.drew) (bx_below HKE.out B5.out.drew) HL1.out HL2.out HL3.out hg6 hf6 (HN6.out A6 n6 c6 w6 hg6.1.1); have hc6 := (bx_below (bx_below HBX.out B5.out.drew) hg6.2.2).cell; have hc6x := (bx_below (bx_below (bx_below HBX.out B5.out.drew) hg6.2.2) ((Below.refl w6.heap.size w6).alloc (Nat.le_refl _) (.cells #[.slice A6 n6 c6] 25))).cell; have HALL := Lib.hid hall7.out; have HRUN := Lib.hid hrun; clear hg6 hf6 hall7 hrun); try (refine hK _ _ ?_; clear hK K)
              refine wpAnyIn_ready (rs := [5]) (by kernel_rfl) (by simp) ?_
              refine AllReadyIn.cons rfl (fun K hK => ?_) AllReadyIn.nil
              go_simp; refine hK _ _ ?_; clear hK K
              refine wpAnyIn_ready (rs := [6]) (by kernel_rfl) (by simp) ?_
              refine AllReadyIn.cons rfl (fun K hK => ?_) AllReadyIn.nil
              refine stepIn_run (by rfl) (.tmp 38) (.tmp 43) 22 (by rfl) _ _ _ _ (by rfl) (by rfl) (HRUN.out _) ?_; refine hK _ _ ?_; clear hK K
              refine wpAnyIn_ready (rs := [7]) (by kernel_rfl) (by simp) ?_
              refine AllReadyIn.cons rfl (fun K hK => ?_) AllReadyIn.nil
              go_simp; refine hK _ _ ?_; clear hK K
              refine wpAnyIn_done (by kernel_rfl) ?_ _
              gi_wp2
              obtain ⟨a1, a2, a3, a4, a5, a6, a7, a8⟩ := HALL.out
              refine ⟨(keeps_below B5.out.drew).trans a7, ⟨(B5.out.drew.mono HBW.out.size).trans a8, fun _ => a3⟩, ?_, ⟨A7, c7, ?_, ?_⟩, a3, a4, a5, a6⟩
              · intro y hy
                rcases List.mem_append.1 hy with hy | hy
                · exact HCK.out y hy
                · obtain rfl : y = x := by simpa using hy
                  rw [HXL.out]; exact HQ.out
              · rw [List.length_append]; exact a1
              · rw [List.length_append, List.map_append, List.map_cons, HXL.out]; exact a2
            refine AllReadyIn.cons rfl (fun K hK => ?_) AllReadyIn.nil
            go_simp; refine hK _ _ ?_; clear hK K
            refine wpAnyIn_ready (rs := [1]) (by kernel_rfl) (by simp) ?_
            refine AllReadyIn.cons rfl (fun K hK => ?_) AllReadyIn.nil
            go_simp; refine hK _ _ ?_; clear hK K
            refine wpAnyIn_ready (rs := [4]) (by kernel_rfl) (by simp) ?_
            refine AllReadyIn.cons rfl (fun K hK => ?_) AllReadyIn.nil
            go_simp; gi_wp2_with (refine ⟨trivial, ?_⟩; gi_at_call 36; refine (CallsIn.inRound l (callsIn_wide.2 C25.out)).mono ?_; rintro e w6 ⟨A6, n6, c6, rfl, hg6, hf6⟩; obtain ⟨A7, c7, w7, hrun, hc7, hz7, hall7⟩ := push_row (HGW.out.below B5.out.drew) HLM.out HM60.out (bx_below HBX.out B5.out.drew) HBGE.out (HCAP.out.below B5.out.drew) lp lq lr lk (HKG.out.below B5.out.drew) (HKR.out.below B5.out.drew) (bx_below HKE.out B5.out.drew) HL1.out HL2.out HL3.out hg6 hf6 (HN6.out A6 n6 c6 w6 hg6.1.1); have hc6 := (bx_below (bx_below HBX.out B5.out.drew) hg6.2.2).cell; have hc6x := (bx_below (bx_below (bx_below HBX.out B5.out.drew) hg6.2.2) ((Below.refl w6.heap.size w6).alloc (Nat.le_refl _) (.cells #[.slice A6 n6 c6] 25))).cell; have HALL := Lib.hid hall7.out; have HRUN := Lib.hid hrun; clear hg6 hf6 hall7 hrun); try (refine hK _ _ ?_; clear hK K)
            refine wpAnyIn_ready (rs := [5]) (by kernel_rfl) (by simp) ?_
            refine AllReadyIn.cons rfl (fun K hK => ?_) AllReadyIn.nil
            go_simp; refine hK _ _ ?_; clear hK K
            refine wpAnyIn_ready (rs := [6]) (by kernel_rfl) (by simp) ?_
            refine AllReadyIn.cons rfl (fun K hK => ?_) AllReadyIn.nil
            refine stepIn_run (by rfl) (.tmp 38) (.tmp 43) 22 (by rfl) _ _ _ _ (by rfl) (by rfl) (HRUN.out _) ?_; refine hK _ _ ?_; clear hK K
            refine wpAnyIn_ready (rs := [7]) (by kernel_rfl) (by simp) ?_
            refine AllReadyIn.cons rfl (fun K hK => ?_) AllReadyIn.nil
            go_simp; refine hK _ _ ?_; clear hK K
            refine wpAnyIn_done (by kernel_rfl) ?_ _
            gi_wp2
            obtain ⟨a1, a2, a3, a4, a5, a6, a7, a8⟩ := HALL.out
            refine ⟨(keeps_below B5.out.drew).trans a7, ⟨(B5.out.drew.mono HBW.out.size).trans a8, fun _ => a3⟩, ?_, ⟨A7, c7, ?_, ?_⟩, a3, a4, a5, a6⟩
            · intro y hy
              rcases List.mem_append.1 hy with hy | hy
              · exact HCK.out y hy
              · obtain rfl : y = x := by simpa using hy
                rw [HXL.out]; exact HQ.out
            · rw [List.length_append]; exact a1
            · rw [List.length_append, List.map_append, List.map_cons, HXL.out]; exact a2
          refine AllReadyIn.cons rfl (fun K hK => ?_) ?_
          · go_simp; refine hK _ _ ?_; clear hK K
            refine wpAnyIn_ready (rs := [0, 2]) (by kernel_rfl) (by simp) ?_
            refine AllReadyIn.cons rfl (fun K hK => ?_) ?_
            · go_simp; refine hK _ _ ?_; clear hK K
              refine wpAnyIn_ready (rs := [2]) (by kernel_rfl) (by simp) ?_
              refine AllReadyIn.cons rfl (fun K hK => ?_) AllReadyIn.nil
              go_simp; refine hK _ _ ?_; clear hK K
              refine wpAnyIn_ready (rs := [3]) (by kernel_rfl) (by simp) ?_
              refine AllReadyIn.cons rfl (fun K hK => ?_) AllReadyIn.nil
              go_simp; refine hK _ _ ?_; clear hK K
              refine wpAnyIn_ready (rs := [4]) (by kernel_rfl) (by simp) ?_
              refine AllReadyIn.cons rfl (fun K hK => ?_) AllReadyIn.nil
              go_simp; gi_wp2_with (refine ⟨trivial, ?_⟩; gi_at_call 36; refine (CallsIn.inRound l (callsIn_wide.2 C25.out)).mono ?_; rintro e w6 ⟨A6, n6, c6, rfl, hg6, hf6⟩; obtain ⟨A7, c7, w7, hrun, hc7, hz7, hall7⟩ := push_row (HGW.out.below B5.out.drew) HLM.out HM60.out (bx_below HBX.out B5.out.drew) HBGE.out (HCAP.out.below B5.out.drew) lp lq lr lk (HKG.out.below B5.out.drew) (HKR.out.below B5.out.drew) (bx_below HKE.out B5.out.drew) HL1.out HL2.out HL3.out hg6 hf6 (HN6.out A6 n6 c6 w6 hg6.1.1); have hc6 := (bx_below (bx_below HBX.out B5.out.drew) hg6.2.2).cell; have hc6x := (bx_below (bx_below (bx_below HBX.out B5.out.drew) hg6.2.2) ((Below.refl w6.heap.size w6).alloc (Nat.le_refl _) (.cells #[.slice A6 n6 c6] 25))).cell; have HALL := Lib.hid hall7.out; have HRUN := Lib.hid hrun; clear hg6 hf6 hall7 hrun); try (refine hK _ _ ?_; clear hK K)
              refine wpAnyIn_ready (rs := [5]) (by kernel_rfl) (by simp) ?_
              refine AllReadyIn.cons rfl (fun K hK => ?_) AllReadyIn.nil
              go_simp; refine hK _ _ ?_; clear hK K
              refine wpAnyIn_ready (rs := [6]) (by kernel_rfl) (by simp) ?_
              refine AllReadyIn.cons rfl (fun K hK => ?_) AllReadyIn.nil
              refine stepIn_run (by rfl) (.tmp 38) (.tmp 43) 22 (by rfl) _ _ _ _ (by rfl) (by rfl) (HRUN.out _) ?_; refine hK _ _ ?_; clear hK K
              refine wpAnyIn_ready (rs := [7]) (by kernel_rfl) (by simp) ?_
              refine AllReadyIn.cons rfl (fun K hK => ?_) AllReadyIn.nil
              go_simp; refine hK _ _ ?_; clear hK K
              refine wpAnyIn_done (by kernel_rfl) ?_ _
              gi_wp2
              obtain ⟨a1, a2, a3, a4, a5, a6, a7, a8⟩ := HALL.out
              refine ⟨(keeps_below B5.out.drew).trans a7, ⟨(B5.out.drew.mono HBW.out.size).trans a8, fun _ => a3⟩, ?_, ⟨A7, c7, ?_, ?_⟩, a3, a4, a5, a6⟩
              · intro y hy
                rcases List.mem_append.1 hy with hy | hy
                · exact HCK.out y hy
                · obtain rfl : y = x := by simpa using hy
                  rw [HXL.out]; exact HQ.out
              · rw [List.length_append]; exact a1
              · rw [List.length_append, List.map_append, List.map_cons, HXL.out]; exact a2
            refine AllReadyIn.cons rfl (fun K hK => ?_) AllReadyIn.nil
            go_simp; refine hK _ _ ?_; clear hK K
            refine wpAnyIn_ready (rs := [0, 3]) (by kernel_rfl) (by simp) ?_
            refine AllReadyIn.cons rfl (fun K hK => ?_) ?_
            · go_simp; refine hK _ _ ?_; clear hK K
              refine wpAnyIn_ready (rs := [3]) (by kernel_rfl) (by simp) ?_
              refine AllReadyIn.cons rfl (fun K hK => ?_) AllReadyIn.nil
              go_simp; refine hK _ _ ?_; clear hK K
              refine wpAnyIn_ready (rs := [4]) (by kernel_rfl) (by simp) ?_
              refine AllReadyIn.cons rfl (fun K hK => ?_) AllReadyIn.nil
              go_simp; gi_wp2_with (refine ⟨trivial, ?_⟩; gi_at_call 36; refine (CallsIn.inRound l (callsIn_wide.2 C25.out)).mono ?_; rintro e w6 ⟨A6, n6, c6, rfl, hg6, hf6⟩; obtain ⟨A7, c7, w7, hrun, hc7, hz7, hall7⟩ := push_row (HGW.out.below B5.out.drew) HLM.out HM60.out (bx_below HBX.out B5.out.drew) HBGE.out (HCAP.out.below B5.out.drew) lp lq lr lk (HKG.out.below B5.out.drew) (HKR.out.below B5.out.drew) (bx_below HKE.out B5.out.drew) HL1.out HL2.out HL3.out hg6 hf6 (HN6.out A6 n6 c6 w6 hg6.1.1); have hc6 := (bx_below (bx_below HBX.out B5.out.drew) hg6.2.2).cell; have hc6x := (bx_below (bx_below (bx_below HBX.out B5.out.drew) hg6.2.2) ((Below.refl w6.heap.size w6).alloc (Nat.le_refl _) (.cells #[.slice A6 n6 c6] 25))).cell; have HALL := Lib.hid hall7.out; have HRUN := Lib.hid hrun; clear hg6 hf6 hall7 hrun); try (refine hK _ _ ?_; clear hK K)
              refine wpAnyIn_ready (rs := [5]) (by kernel_rfl) (by simp) ?_
              refine AllReadyIn.cons rfl (fun K hK => ?_) AllReadyIn.nil
              go_simp; refine hK _ _ ?_; clear hK K
              refine wpAnyIn_ready (rs := [6]) (by kernel_rfl) (by simp) ?_
              refine AllReadyIn.cons rfl (fun K hK => ?_) AllReadyIn.nil
              refine stepIn_run (by rfl) (.tmp 38) (.tmp 43) 22 (by rfl) _ _ _ _ (by rfl) (by rfl) (HRUN.out _) ?_; refine hK _ _ ?_; clear hK K
              refine wpAnyIn_ready (rs := [7]) (by kernel_rfl) (by simp) ?_
              refine AllReadyIn.cons rfl (fun K hK => ?_) AllReadyIn.nil
              go_simp; refine hK _ _ ?_; clear hK K
              refine wpAnyIn_done (by kernel_rfl) ?_ _
              gi_wp2
              obtain ⟨a1, a2, a3, a4, a5, a6, a7, a8⟩ := HALL.out
              refine ⟨(keeps_below B5.out.drew).trans a7, ⟨(B5.out.drew.mono HBW.out.size).trans a8, fun _ => a3⟩, ?_, ⟨A7, c7, ?_, ?_⟩, a3, a4, a5, a6⟩
              · intro y hy
                rcases List.mem_append.1 hy with hy | hy
                · exact HCK.out y hy
                · obtain rfl : y = x := by simpa using hy
                  rw [HXL.out]; exact HQ.out
              · rw [List.length_append]; exact a1
              · rw [List.length_append, List.map_append, List.map_cons, HXL.out]; exact a2
            refine AllReadyIn.cons rfl (fun K hK => ?_) AllReadyIn.nil
            go_simp; refine hK _ _ ?_; clear hK K
            refine wpAnyIn_ready (rs := [0, 4]) (by kernel_rfl) (by simp) ?_
            refine AllReadyIn.cons rfl (fun K hK => ?_) ?_
            · go_simp; refine hK _ _ ?_; clear hK K
              refine wpAnyIn_ready (rs := [4]) (by kernel_rfl) (by simp) ?_
              refine AllReadyIn.cons rfl (fun K hK => ?_) AllReadyIn.nil
              go_simp; gi_wp2_with (refine ⟨trivial, ?_⟩; gi_at_call 36; refine (CallsIn.inRound l (callsIn_wide.2 C25.out)).mono ?_; rintro e w6 ⟨A6, n6, c6, rfl, hg6, hf6⟩; obtain ⟨A7, c7, w7, hrun, hc7, hz7, hall7⟩ := push_row (HGW.out.below B5.out.drew) HLM.out HM60.out (bx_below HBX.out B5.out.drew) HBGE.out (HCAP.out.below B5.out.drew) lp lq lr lk (HKG.out.below B5.out.drew) (HKR.out.below B5.out.drew) (bx_below HKE.out B5.out.drew) HL1.out HL2.out HL3.out hg6 hf6 (HN6.out A6 n6 c6 w6 hg6.1.1); have hc6 := (bx_below (bx_below HBX.out B5.out.drew) hg6.2.2).cell; have hc6x := (bx_below (bx_below (bx_below HBX.out B5.out.drew) hg6.2.2) ((Below.refl w6.heap.size w6).alloc (Nat.le_refl _) (.cells #[.slice A6 n6 c6] 25))).cell; have HALL := Lib.hid hall7.out; have HRUN := Lib.hid hrun; clear hg6 hf6 hall7 hrun); try (refine hK _ _ ?_; clear hK K)
              refine wpAnyIn_ready (rs := [5]) (by kernel_rfl) (by simp) ?_
              refine AllReadyIn.cons rfl (fun K hK => ?_) AllReadyIn.nil
              go_simp; refine hK _ _ ?_; clear hK K
              refine wpAnyIn_ready (rs := [6]) (by kernel_rfl) (by simp) ?_
              refine AllReadyIn.cons rfl (fun K hK => ?_) AllReadyIn.nil
              refine stepIn_run (by rfl) (.tmp 38) (.tmp 43) 22 (by rfl) _ _ _ _ (by rfl) (by rfl) (HRUN.out _) ?_; refine hK _ _ ?_; clear hK K
              refine wpAnyIn_ready (rs := [7]) (by kernel_rfl) (by simp) ?_
              refine AllReadyIn.cons rfl (fun K hK => ?_) AllReadyIn.nil
              go_simp; refine hK _ _ ?_; clear hK K
              refine wpAnyIn_done (by kernel_rfl) ?_ _
              gi_wp2
              obtain ⟨a1, a2, a3, a4, a5, a6, a7, a8⟩ := HALL.out
              refine ⟨(keeps_below B5.out.drew).trans a7, ⟨(B5.out.drew.mono HBW.out.size).trans a8, fun _ => a3⟩, ?_, ⟨A7, c7, ?_, ?_⟩, a3, a4, a5, a6⟩
              · intro y hy
                rcases List.mem_append.1 hy with hy | hy
                · exact HCK.out y hy
                · obtain rfl : y = x := by simpa using hy
                  rw [HXL.out]; exact HQ.out
              · rw [List.length_append]; exact a1
              · rw [List.length_append, List.map_append, List.map_cons, HXL.out]; exact a2
            refine AllReadyIn.cons rfl (fun K hK => ?_) AllReadyIn.nil
            go_simp; gi_wp2_with (refine ⟨trivial, ?_⟩; gi_at_call 36; refine (CallsIn.inRound l (callsIn_wide.2 C25.out)).mono ?_; rintro e w6 ⟨A6, n6, c6, rfl, hg6, hf6⟩; obtain ⟨A7, c7, w7, hrun, hc7, hz7, hall7⟩ := push_row (HGW.out.below B5.out.drew) HLM.out HM60.out (bx_below HBX.out B5.out.drew) HBGE.out (HCAP.out.below B5.out.drew) lp lq lr lk (HKG.out.below B5.out.drew) (HKR.out.below B5.out.drew) (bx_below HKE.out B5.out.drew) HL1.out HL2.out HL3.out hg6 hf6 (HN6.out A6 n6 c6 w6 hg6.1.1); have hc6 := (bx_below (bx_below HBX.out B5.out.drew) hg6.2.2).cell; have hc6x := (bx_below (bx_below (bx_below HBX.out B5.out.drew) hg6.2.2) ((Below.refl w6.heap.size w6).alloc (Nat.le_refl _) (.cells #[.slice A6 n6 c6] 25))).cell; have HALL := Lib.hid hall7.out; have HRUN := Lib.hid hrun; clear hg6 hf6 hall7 hrun); try (refine hK _ _ ?_; clear hK K)
            refine wpAnyIn_ready (rs := [0, 5]) (by kernel_rfl) (by simp) ?_
            refine AllReadyIn.cons rfl (fun K hK => ?_) ?_
            · go_simp; refine hK _ _ ?_; clear hK K
              refine wpAnyIn_ready (rs := [5]) (by kernel_rfl) (by simp) ?_
              refine AllReadyIn.cons rfl (fun K hK => ?_) AllReadyIn.nil
              go_simp; refine hK _ _ ?_; clear hK K
              refine wpAnyIn_ready (rs := [6]) (by kernel_rfl) (by simp) ?_
              refine AllReadyIn.cons rfl (fun K hK => ?_) AllReadyIn.nil
              refine stepIn_run (by rfl) (.tmp 38) (.tmp 43) 22 (by rfl) _ _ _ _ (by rfl) (by rfl) (HRUN.out _) ?_; refine hK _ _ ?_; clear hK K
              refine wpAnyIn_ready (rs := [7]) (by kernel_rfl) (by simp) ?_
              refine AllReadyIn.cons rfl (fun K hK => ?_) AllReadyIn.nil
              go_simp; refine hK _ _ ?_; clear hK K
              refine wpAnyIn_done (by kernel_rfl) ?_ _
              gi_wp2
              obtain ⟨a1, a2, a3, a4, a5, a6, a7, a8⟩ := HALL.out
              refine ⟨(keeps_below B5.out.drew).trans a7, ⟨(B5.out.drew.mono HBW.out.size).trans a8, fun _ => a3⟩, ?_, ⟨A7, c7, ?_, ?_⟩, a3, a4, a5, a6⟩
              · intro y hy
                rcases List.mem_append.1 hy with hy | hy
                · exact HCK.out y hy
                · obtain rfl : y = x := by simpa using hy
                  rw [HXL.out]; exact HQ.out
              · rw [List.length_append]; exact a1
              · rw [List.length_append, List.map_append, List.map_cons, HXL.out]; exact a2
            refine AllReadyIn.cons rfl (fun K hK => ?_) AllReadyIn.nil
            go_simp; refine hK _ _ ?_; clear hK K
            refine wpAnyIn_ready (rs := [0]) (by kernel_rfl) (by simp) ?_
            refine AllReadyIn.cons rfl (fun K hK => ?_) AllReadyIn.nil
            go_simp; refine hK _ _ ?_; clear hK K
            refine wpAnyIn_ready (rs := [6]) (by kernel_rfl) (by simp) ?_
            refine AllReadyIn.cons rfl (fun K hK => ?_) AllReadyIn.nil
            refine stepIn_run (by rfl) (.tmp 38) (.tmp 43) 22 (by rfl) _ _ _ _ (by rfl) (by rfl) (HRUN.out _) ?_; refine hK _ _ ?_; clear hK K
            refine wpAnyIn_ready (rs := [7]) (by kernel_rfl) (by simp) ?_
            refine AllReadyIn.cons rfl (fun K hK => ?_) AllReadyIn.nil
            go_simp; refine hK _ _ ?_; clear hK K
            refine wpAnyIn_done (by kernel_rfl) ?_ _
            gi_wp2
            obtain ⟨a1, a2, a3, a4, a5, a6, a7, a8⟩ := HALL.out
            refine ⟨(keeps_below B5.out.drew).trans a7, ⟨(B5.out.drew.mono HBW.out.size).trans a8, fun _ => a3⟩, ?_, ⟨A7, c7, ?_, ?_⟩, a3, a4, a5, a6⟩
            · intro y hy
              rcases List.mem_append.1 hy with hy | hy
              · exact HCK.out y hy
              · obtain rfl : y = x := by simpa using hy
                rw [HXL.out]; exact HQ.out
            · rw [List.length_append]; exact a1
            · rw [List.length_append, List.map_append, List.map_cons, HXL.out]; exact a2
          refine AllReadyIn.cons rfl (fun K hK => ?_) AllReadyIn.nil
          go_simp; refine hK _ _ ?_; clear hK K
          refine wpAnyIn_ready (rs := [0, 1, 3]) (by kernel_rfl) (by simp) ?_
          refine AllReadyIn.cons rfl (fun K hK => ?_) ?_
          · go_simp; refine hK _ _ ?_; clear hK K
            refine wpAnyIn_ready (rs := [1, 3]) (by kernel_rfl) (by simp) ?_
            refine AllReadyIn.cons rfl (fun K hK => ?_) ?_
            · go_simp; refine hK _ _ ?_; clear hK K
              refine wpAnyIn_ready (rs := [3]) (by kernel_rfl) (by simp) ?_
              refine AllReadyIn.cons rfl (fun K hK => ?_) AllReadyIn.nil
              go_simp; refine hK _ _ ?_; clear hK K
              refine wpAnyIn_ready (rs := [4]) (by kernel_rfl) (by simp) ?_
              refine AllReadyIn.cons rfl (fun K hK => ?_) AllReadyIn.nil
              go_simp; gi_wp2_with (refine ⟨trivial, ?_⟩; gi_at_call 36; refine (CallsIn.inRound l (callsIn_wide.2 C25.out)).mono ?_; rintro e w6 ⟨A6, n6, c6, rfl, hg6, hf6⟩; obtain ⟨A7, c7, w7, hrun, hc7, hz7, hall7⟩ := push_row (HGW.out.below B5.out.drew) HLM.out HM60.out (bx_below HBX.out B5.out.drew) HBGE.out (HCAP.out.below B5.out.drew) lp lq lr lk (HKG.out.below B5.out.drew) (HKR.out.below B5.out.drew) (bx_below HKE.out B5.out.drew) HL1.out HL2.out HL3.out hg6 hf6 (HN6.out A6 n6 c6 w6 hg6.1.1); have hc6 := (bx_below (bx_below HBX.out B5.out.drew) hg6.2.2).cell; have hc6x := (bx_below (bx_below (bx_below HBX.out B5.out.drew) hg6.2.2) ((Below.refl w6.heap.size w6).alloc (Nat.le_refl _) (.cells #[.slice A6 n6 c6] 25))).cell; have HALL := Lib.hid hall7.out; have HRUN := Lib.hid hrun; clear hg6 hf6 hall7 hrun); try (refine hK _ _ ?_; clear hK K)
              refine wpAnyIn_ready (rs := [5]) (by kernel_rfl) (by simp) ?_
              refine AllReadyIn.cons rfl (fun K hK => ?_) AllReadyIn.nil
              go_simp; refine hK _ _ ?_; clear hK K
              refine wpAnyIn_ready (rs := [6]) (by kernel_rfl) (by simp) ?_
              refine AllReadyIn.cons rfl (fun K hK => ?_) AllReadyIn.nil
              refine stepIn_run (by rfl) (.tmp 38) (.tmp 43) 22 (by rfl) _ _ _ _ (by rfl) (by rfl) (HRUN.out _) ?_; refine hK _ _ ?_; clear hK K
              refine wpAnyIn_ready (rs := [7]) (by kernel_rfl) (by simp) ?_
              refine AllReadyIn.cons rfl (fun K hK => ?_) AllReadyIn.nil
              go_simp; refine hK _ _ ?_; clear hK K
              refine wpAnyIn_done (by kernel_rfl) ?_ _
              gi_wp2
              obtain ⟨a1, a2, a3, a4, a5, a6, a7, a8⟩ := HALL.out
              refine ⟨(keeps_below B5.out.drew).trans a7, ⟨(B5.out.drew.mono HBW.out.size).trans a8, fun _ => a3⟩, ?_, ⟨A7, c7, ?_, ?_⟩, a3, a4, a5, a6⟩
              · intro y hy
                rcases List.mem_append.1 hy with hy | hy
                · exact HCK.out y hy
                · obtain rfl : y = x := by simpa using hy
                  rw [HXL.out]; exact HQ.out
              · rw [List.length_append]; exact a1
              · rw [List.length_append, List.map_append, List.map_cons, HXL.out]; exact a2
            refine AllReadyIn.cons rfl (fun K hK => ?_) AllReadyIn.nil
            go_simp; refine hK _ _ ?_; clear hK K
            refine wpAnyIn_ready (rs := [1]) (by kernel_rfl) (by simp) ?_
            refine AllReadyIn.cons rfl (fun K hK => ?_) AllReadyIn.nil
            go_simp; refine hK _ _ ?_; clear hK K
            refine wpAnyIn_ready (rs := [4]) (by kernel_rfl) (by simp) ?_
            refine AllReadyIn.cons rfl (fun K hK => ?_) AllReadyIn.nil
            go_simp; gi_wp2_with (refine ⟨trivial, ?_⟩; gi_at_call 36; refine (CallsIn.inRound l (callsIn_wide.2 C25.out)).mono ?_; rintro e w6 ⟨A6, n6, c6, rfl, hg6, hf6⟩; obtain ⟨A7, c7, w7, hrun, hc7, hz7, hall7⟩ := push_row (HGW.out.below B5.out.drew) HLM.out HM60.out (bx_below HBX.out B5.out.drew) HBGE.out (HCAP.out.below B5.out.drew) lp lq lr lk (HKG.out.below B5.out.drew) (HKR.out.below B5.out.drew) (bx_below HKE.out B5.out.drew) HL1.out HL2.out HL3.out hg6 hf6 (HN6.out A6 n6 c6 w6 hg6.1.1); have hc6 := (bx_below (bx_below HBX.out B5.out.drew) hg6.2.2).cell; have hc6x := (bx_below (bx_below (bx_below HBX.out B5.out.drew) hg6.2.2) ((Below.refl w6.heap.size w6).alloc (Nat.le_refl _) (.cells #[.slice A6 n6 c6] 25))).cell; have HALL := Lib.hid hall7.out; have HRUN := Lib.hid hrun; clear hg6 hf6 hall7 hrun); try (refine hK _ _ ?_; clear hK K)
            refine wpAnyIn_ready (rs := [5]) (by kernel_rfl) (by simp) ?_
            refine AllReadyIn.cons rfl (fun K hK => ?_) AllReadyIn.nil
            go_simp; refine hK _ _ ?_; clear hK K
            refine wpAnyIn_ready (rs := [6]) (by kernel_rfl) (by simp) ?_
            refine AllReadyIn.cons rfl (fun K hK => ?_) AllReadyIn.nil
            refine stepIn_run (by rfl) (.tmp 38) (.tmp 43) 22 (by rfl) _ _ _ _ (by rfl) (by rfl) (HRUN.out _) ?_; refine hK _ _ ?_; clear hK K
            refine wpAnyIn_ready (rs := [7]) (by kernel_rfl) (by simp) ?_
            refine AllReadyIn.cons rfl (fun K hK => ?_) AllReadyIn.nil
            go_simp; refine hK _ _ ?_; clear hK K
            refine wpAnyIn_done (by kernel_rfl) ?_ _
            gi_wp2
            obtain ⟨a1, a2, a3, a4, a5, a6, a7, a8⟩ := HALL.out
            refine ⟨(keeps_below B5.out.drew).trans a7, ⟨(B5.out.drew.mono HBW.out.size).trans a8, fun _ => a3⟩, ?_, ⟨A7, c7, ?_, ?_⟩, a3, a4, a5, a6⟩
            · intro y hy
              rcases List.mem_append.1 hy with hy | hy
              · exact HCK.out y hy
              · obtain rfl : y = x := by simpa using hy
                rw [HXL.out]; exact HQ.out
            · rw [List.length_append]; exact a1
            · rw [List.length_append, List.map_append, List.map_cons, HXL.out]; exact a2
          refine AllReadyIn.cons rfl (fun K hK => ?_) ?_
          · go_simp; refine hK _ _ ?_; clear hK K
            refine wpAnyIn_ready (rs := [0, 3]) (by kernel_rfl) (by simp) ?_
            refine AllReadyIn.cons rfl (fun K hK => ?_) ?_
            · go_simp; refine hK _ _ ?_; clear hK K
              refine wpAnyIn_ready (rs := [3]) (by kernel_rfl) (by simp) ?_
              refine AllReadyIn.cons rfl (fun K hK => ?_) AllReadyIn.nil
              go_simp; refine hK _ _ ?_; clear hK K
              refine wpAnyIn_ready (rs := [4]) (by kernel_rfl) (by simp) ?_
              refine AllReadyIn.cons rfl (fun K hK => ?_) AllReadyIn.nil
              go_simp; gi_wp2_with (refine ⟨trivial, ?_⟩; gi_at_call 36; refine (CallsIn.inRound l (callsIn_wide.2 C25.out)).mono ?_; rintro e w6 ⟨A6, n6, c6, rfl, hg6, hf6⟩; obtain ⟨A7, c7, w7, hrun, hc7, hz7, hall7⟩ := push_row (HGW.out.below B5.out.drew) HLM.out HM60.out (bx_below HBX.out B5.out.drew) HBGE.out (HCAP.out.below B5.out.drew) lp lq lr lk (HKG.out.below B5.out.drew) (HKR.out.below B5.out.drew) (bx_below HKE.out B5.out.drew) HL1.out HL2.out HL3.out hg6 hf6 (HN6.out A6 n6 c6 w6 hg6.1.1); have hc6 := (bx_below (bx_below HBX.out B5.out.drew) hg6.2.2).cell; have hc6x := (bx_below (bx_below (bx_below HBX.out B5.out.drew) hg6.2.2) ((Below.refl w6.heap.size w6).alloc (Nat.le_refl _) (.cells #[.slice A6 n6 c6] 25))).cell; have HALL := Lib.hid hall7.out; have HRUN := Lib.hid hrun; clear hg6 hf6 hall7 hrun); try (refine hK _ _ ?_; clear hK K)
              refine wpAnyIn_ready (rs := [5]) (by kernel_rfl) (by simp) ?_
              refine AllReadyIn.cons rfl (fun K hK => ?_) AllReadyIn.nil
              go_simp; refine hK _ _ ?_; clear hK K
              refine wpAnyIn_ready (rs := [6]) (by kernel_rfl) (by simp) ?_
              refine AllReadyIn.cons rfl (fun K hK => ?_) AllReadyIn.nil
              refine stepIn_run (by rfl) (.tmp 38) (.tmp 43) 22 (by rfl) _ _ _ _ (by rfl) (by rfl) (HRUN.out _) ?_; refine hK _ _ ?_; clear hK K
              refine wpAnyIn_ready (rs := [7]) (by kernel_rfl) (by simp) ?_
              refine AllReadyIn.cons rfl (fun K hK => ?_) AllReadyIn.nil
              go_simp; refine hK _ _ ?_; clear hK K
              refine wpAnyIn_done (by kernel_rfl) ?_ _
              gi_wp2
              obtain ⟨a1, a2, a3, a4, a5, a6, a7, a8⟩ := HALL.out
              refine ⟨(keeps_below B5.out.drew).trans a7, ⟨(B5.out.drew.mono HBW.out.size).trans a8, fun _ => a3⟩, ?_, ⟨A7, c7, ?_, ?_⟩, a3, a4, a5, a6⟩
              · intro y hy
                rcases List.mem_append.1 hy with hy | hy
                · exact HCK.out y hy
                · obtain rfl : y = x := by simpa using hy
                  rw [HXL.out]; exact HQ.out
              · rw [List.length_append]; exact a1
              · rw [List.length_append, List.map_append, List.map_cons, HXL.out]; exact a2
            refine AllReadyIn.cons rfl (fun K hK => ?_) AllReadyIn.nil
            go_simp; refine hK _ _ ?_; clear hK K
            refine wpAnyIn_ready (rs := [0, 4]) (by kernel_rfl) (by simp) ?_
            refine AllReadyIn.cons rfl (fun K hK => ?_) ?_
            · go_simp; refine hK _ _ ?_; clear hK K
              refine wpAnyIn_ready (rs := [4]) (by kernel_rfl) (by simp) ?_
              refine AllReadyIn.cons rfl (fun K hK => ?_) AllReadyIn.nil
              go_simp; gi_wp2_with (refine ⟨trivial, ?_⟩; gi_at_call 36; refine (CallsIn.inRound l (callsIn_wide.2 C25.out)).mono ?_; rintro e w6 ⟨A6, n6, c6, rfl, hg6, hf6⟩; obtain ⟨A7, c7, w7, hrun, hc7, hz7, hall7⟩ := push_row (HGW.out.below B5.out.drew) HLM.out HM60.out (bx_below HBX.out B5.out.drew) HBGE.out (HCAP.out.below B5.out.drew) lp lq lr lk (HKG.out.below B5.out.drew) (HKR.out.below B5.out.drew) (bx_below HKE.out B5.out.drew) HL1.out HL2.out HL3.out hg6 hf6 (HN6.out A6 n6 c6 w6 hg6.1.1); have hc6 := (bx_below (bx_below HBX.out B5.out.drew) hg6.2.2).cell; have hc6x := (bx_below (bx_below (bx_below HBX.out B5.out.drew) hg6.2.2) ((Below.refl w6.heap.size w6).alloc (Nat.le_refl _) (.cells #[.slice A6 n6 c6] 25))).cell; have HALL := Lib.hid hall7.out; have HRUN := Lib.hid hrun; clear hg6 hf6 hall7 hrun); try (refine hK _ _ ?_; clear hK K)
              refine wpAnyIn_ready (rs := [5]) (by kernel_rfl) (by simp) ?_
              refine AllReadyIn.cons rfl (fun K hK => ?_) AllReadyIn.nil
              go_simp; refine hK _ _ ?_; clear hK K
              refine wpAnyIn_ready (rs := [6]) (by kernel_rfl) (by simp) ?_
              refine AllReadyIn.cons rfl (fun K hK => ?_) AllReadyIn.nil
              refine stepIn_run (by rfl) (.tmp 38) (.tmp 43) 22 (by rfl) _ _ _ _ (by rfl) (by rfl) (HRUN.out _) ?_; refine hK _ _ ?_; clear hK K
              refine wpAnyIn_ready (rs := [7]) (by kernel_rfl) (by simp) ?_
              refine AllReadyIn.cons rfl (fun K hK => ?_) AllReadyIn.nil
              go_simp; refine hK _ _ ?_; clear hK K
              refine wpAnyIn_done (by kernel_rfl) ?_ _
              gi_wp2
              obtain ⟨a1, a2, a3, a4, a5, a6, a7, a8⟩ := HALL.out
              refine ⟨(keeps_below B5.out.drew).trans a7, ⟨(B5.out.drew.mono HBW.out.size).trans a8, fun _ => a3⟩, ?_, ⟨A7, c7, ?_, ?_⟩, a3, a4, a5, a6⟩
              · intro y hy
                rcases List.mem_append.1 hy with hy | hy
                · exact HCK.out y hy
                · obtain rfl : y = x := by simpa using hy
                  rw [HXL.out]; exact HQ.out
              · rw [List.length_append]; exact a1
              · rw [List.length_append, List.map_append, List.map_cons, HXL.out]; exact a2
            refine AllReadyIn.cons rfl (fun K hK => ?_) AllReadyIn.nil
            go_simp; gi_wp2_with (refine ⟨trivial, ?_⟩; gi_at_call 36; refine (CallsIn.inRound l (callsIn_wide.2 C25.out)).mono ?_; rintro e w6 ⟨A6, n6, c6, rfl, hg6, hf6⟩; obtain ⟨A7, c7, w7, hrun, hc7, hz7, hall7⟩ := push_row (HGW.out.below B5.out.drew) HLM.out HM60.out (bx_below HBX.out B5.out.drew) HBGE.out (HCAP.out.below B5.out.drew) lp lq lr lk (HKG.out.below B5.out.drew) (HKR.out.below B5.out.drew) (bx_below HKE.out B5.out.drew) HL1.out HL2.out HL3.out hg6 hf6 (HN6.out A6 n6 c6 w6 hg6.1.1); have hc6 := (bx_below (bx_below HBX.out B5.out.drew) hg6.2.2).cell; have hc6x := (bx_below (bx_below (bx_below HBX.out B5.out.drew) hg6.2.2) ((Below.refl w6.heap.size w6).alloc (Nat.le_refl _) (.cells #[.slice A6 n6 c6] 25))).cell; have HALL := Lib.hid hall7.out; have HRUN := Lib.hid hrun; clear hg6 hf6 hall7 hrun); try (refine hK _ _ ?_; clear hK K)
            refine wpAnyIn_ready (rs := [0, 5]) (by kernel_rfl) (by simp) ?_
            refine AllReadyIn.cons rfl (fun K hK => ?_) ?_
            · go_simp; refine hK _ _ ?_; clear hK K
              refine wpAnyIn_ready (rs := [5]) (by kernel_rfl) (by simp) ?_
              refine AllReadyIn.cons rfl (fun K hK => ?_) AllReadyIn.nil
              go_simp; refine hK _ _ ?_; clear hK K
              refine wpAnyIn_ready (rs := [6]) (by kernel_rfl) (by simp) ?_
              refine AllReadyIn.cons rfl (fun K hK => ?_) AllReadyIn.nil
              refine stepIn_run (by rfl) (.tmp 38) (.tmp 43) 22 (by rfl) _ _ _ _ (by rfl) (by rfl) (HRUN.out _) ?_; refine hK _ _ ?_; clear hK K
              refine wpAnyIn_ready (rs := [7]) (by kernel_rfl) (by simp) ?_
              refine AllReadyIn.cons rfl (fun K hK => ?_) AllReadyIn.nil
              go_simp; refine hK _ _ ?_; clear hK K
              refine wpAnyIn_done (by kernel_rfl) ?_ _
              gi_wp2
              obtain ⟨a1, a2, a3, a4, a5, a6, a7, a8⟩ := HALL.out
              refine ⟨(keeps_below B5.out.drew).trans a7, ⟨(B5.out.drew.mono HBW.out.size).trans a8, fun _ => a3⟩, ?_, ⟨A7, c7, ?_, ?_⟩, a3, a4, a5, a6⟩
              · intro y hy
                rcases List.mem_append.1 hy with hy | hy
                · exact HCK.out y hy
                · obtain rfl : y = x := by simpa using hy
                  rw [HXL.out]; exact HQ.out
              · rw [List.length_append]; exact a1
              · rw [List.length_append, List.map_append, List.map_cons, HXL.out]; exact a2
            refine AllReadyIn.cons rfl (fun K hK => ?_) AllReadyIn.nil
            go_simp; refine hK _ _ ?_; clear hK K
            refine wpAnyIn_ready (rs := [0]) (by kernel_rfl) (by simp) ?_
            refine AllReadyIn.cons rfl (fun K hK => ?_) AllReadyIn.nil
            go_simp; refine hK _ _ ?_; clear hK K
            refine wpAnyIn_ready (rs := [6]) (by kernel_rfl) (by simp) ?_
            refine AllReadyIn.cons rfl (fun K hK => ?_) AllReadyIn.nil
            refine stepIn_run (by rfl) (.tmp 38) (.tmp 43) 22 (by rfl) _ _ _ _ (by rfl) (by rfl) (HRUN.out _) ?_; refine hK _ _ ?_; clear hK K
            refine wpAnyIn_ready (rs := [7]) (by kernel_rfl) (by simp) ?_
            refine AllReadyIn.cons rfl (fun K hK => ?_) AllReadyIn.nil
            go_simp; refine hK _ _ ?_; clear hK K
            refine wpAnyIn_done (by kernel_rfl) ?_ _
            gi_wp2
            obtain ⟨a1, a2, a3, a4, a5, a6, a7, a8⟩ := HALL.out
            refine ⟨(keeps_below B5.out.drew).trans a7, ⟨(B5.out.drew.mono HBW.out.size).trans a8, fun _ => a3⟩, ?_, ⟨A7, c7, ?_, ?_⟩, a3, a4, a5, a6⟩
            · intro y hy
              rcases List.mem_append.1 hy with hy | hy
              · exact HCK.out y hy
              · obtain rfl : y = x := by simpa using hy
                rw [HXL.out]; exact HQ.out
            · rw [List.length_append]; exact a1
            · rw [List.length_append, List.map_append, List.map_cons, HXL.out]; exact a2
          refine AllReadyIn.cons rfl (fun K hK => ?_) AllReadyIn.nil
          go_simp; refine hK _ _ ?_; clear hK K
          refine wpAnyIn_ready (rs := [0, 1]) (by kernel_rfl) (by simp) ?_
          refine AllReadyIn.cons rfl (fun K hK => ?_) ?_
          · go_simp; refine hK _ _ ?_; clear hK K
            refine wpAnyIn_ready (rs := [1]) (by kernel_rfl) (by simp) ?_
            refine AllReadyIn.cons rfl (fun K hK => ?_) AllReadyIn.nil
            go_simp; refine hK _ _ ?_; clear hK K
            refine wpAnyIn_ready (rs := [4]) (by kernel_rfl) (by simp) ?_
            refine AllReadyIn.cons rfl (fun K hK => ?_) AllReadyIn.nil
            go_simp; gi_wp2_with (refine ⟨trivial, ?_⟩; gi_at_call 36; refine (CallsIn.inRound l (callsIn_wide.2 C25.out)).mono ?_; rintro e w6 ⟨A6, n6, c6, rfl, hg6, hf6⟩; obtain ⟨A7, c7, w7, hrun, hc7, hz7, hall7⟩ := push_row (HGW.out.below B5.out.drew) HLM.out HM60.out (bx_below HBX.out B5.out.drew) HBGE.out (HCAP.out.below B5.out.drew) lp lq lr lk (HKG.out.below B5.out.drew) (HKR.out.below B5.out.drew) (bx_below HKE.out B5.out.drew) HL1.out HL2.out HL3.out hg6 hf6 (HN6.out A6 n6 c6 w6 hg6.1.1); have hc6 := (bx_below (bx_below HBX.out B5.out.drew) hg6.2.2).cell; have hc6x := (bx_below (bx_below (bx_below HBX.out B5.out.drew) hg6.2.2) ((Below.refl w6.heap.size w6).alloc (Nat.le_refl _) (.cells #[.slice A6 n6 c6] 25))).cell; have HALL := Lib.hid hall7.out; have HRUN := Lib.hid hrun; clear hg6 hf6 hall7 hrun); try (refine hK _ _ ?_; clear hK K)
            refine wpAnyIn_ready (rs := [5]) (by kernel_rfl) (by simp) ?_
            refine AllReadyIn.cons rfl (fun K hK => ?_) AllReadyIn.nil
            go_simp; refine hK _ _ ?_; clear hK K
            refine wpAnyIn_ready (rs := [6]) (by kernel_rfl) (by simp) ?_
            refine AllReadyIn.cons rfl (fun K hK => ?_) AllReadyIn.nil
            refine stepIn_run (by rfl) (.tmp 38) (.tmp 43) 22 (by rfl) _ _ _ _ (by rfl) (by rfl) (HRUN.out _) ?_; refine hK _ _ ?_; clear hK K
            refine wpAnyIn_ready (rs := [7]) (by kernel_rfl) (by simp) ?_
            refine AllReadyIn.cons rfl (fun K hK => ?_) AllReadyIn.nil
            go_simp; refine hK _ _ ?_; clear hK K
            refine wpAnyIn_done (by kernel_rfl) ?_ _
            gi_wp2
            obtain ⟨a1, a2, a3, a4, a5, a6, a7, a8⟩ := HALL.out
            refine ⟨(keeps_below B5.out.drew).trans a7, ⟨(B5.out.drew.mono HBW.out.size).trans a8, fun _ => a3⟩, ?_, ⟨A7, c7, ?_, ?_⟩, a3, a4, a5, a6⟩
            · intro y hy
              rcases List.mem_append.1 hy with hy | hy
              · exact HCK.out y hy
              · obtain rfl : y = x := by simpa using hy
                rw [HXL.out]; exact HQ.out
            · rw [List.length_append]; exact a1
            · rw [List.length_append, List.map_append, List.map_cons, HXL.out]; exact a2
          refine AllReadyIn.cons rfl (fun K hK => ?_) AllReadyIn.nil
          go_simp; refine hK _ _ ?_; clear hK K
          refine wpAnyIn_ready (rs := [0, 4]) (by kernel_rfl) (by simp) ?_
          refine AllReadyIn.cons rfl (fun K hK => ?_) ?_
          · go_simp; refine hK _ _ ?_; clear hK K
            refine wpAnyIn_ready (rs := [4]) (by kernel_rfl) (by simp) ?_
            refine AllReadyIn.cons rfl (fun K hK => ?_) AllReadyIn.nil
            go_simp; gi_wp2_with (refine ⟨trivial, ?_⟩; gi_at_call 36; refine (CallsIn.inRound l (callsIn_wide.2 C25.out)).mono ?_; rintro e w6 ⟨A6, n6, c6, rfl, hg6, hf6⟩; obtain ⟨A7, c7, w7, hrun, hc7, hz7, hall7⟩ := push_row (HGW.out.below B5.out.drew) HLM.out HM60.out (bx_below HBX.out B5.out.drew) HBGE.out (HCAP.out.below B5.out.drew) lp lq lr lk (HKG.out.below B5.out.drew) (HKR.out.below B5.out.drew) (bx_below HKE.out B5.out.drew) HL1.out HL2.out HL3.out hg6 hf6 (HN6.out A6 n6 c6 w6 hg6.1.1); have hc6 := (bx_below (bx_below HBX.out B5.out.drew) hg6.2.2).cell; have hc6x := (bx_below (bx_below (bx_below HBX.out B5.out.drew) hg6.2.2) ((Below.refl w6.heap.size w6).alloc (Nat.le_refl _) (.cells #[.slice A6 n6 c6] 25))).cell; have HALL := Lib.hid hall7.out; have HRUN := Lib.hid hrun; clear hg6 hf6 hall7 hrun); try (refine hK _ _ ?_; clear hK K)
            refine wpAnyIn_ready (rs := [5]) (by kernel_rfl) (by simp) ?_
            refine AllReadyIn.cons rfl (fun K hK => ?_) AllReadyIn.nil
            go_simp; refine hK _ _ ?_; clear hK K
            refine wpAnyIn_ready (rs := [6]) (by kernel_rfl) (by simp) ?_
            refine AllReadyIn.cons rfl (fun K hK => ?_) AllReadyIn.nil
            refine stepIn_run (by rfl) (.tmp 38) (.tmp 43) 22 (by rfl) _ _ _ _ (by rfl) (by rfl) (HRUN.out _) ?_; refine hK _ _ ?_; clear hK K
            refine wpAnyIn_ready (rs := [7]) (by kernel_rfl) (by simp) ?_
            refine AllReadyIn.cons rfl (fun K hK => ?_) AllReadyIn.nil
            go_simp; refine hK _ _ ?_; clear hK K
            refine wpAnyIn_done (by kernel_rfl) ?_ _
            gi_wp2
            obtain ⟨a1, a2, a3, a4, a5, a6, a7, a8⟩ := HALL.out
            refine ⟨(keeps_below B5.out.drew).trans a7, ⟨(B5.out.drew.mono HBW.out.size).trans a8, fun _ => a3⟩, ?_, ⟨A7, c7, ?_, ?_⟩, a3, a4, a5, a6⟩
            · intro y hy
              rcases List.mem_append.1 hy with hy | hy
              · exact HCK.out y hy
              · obtain rfl : y = x := by simpa using hy
                rw [HXL.out]; exact HQ.out
            · rw [List.length_append]; exact a1
            · rw [List.length_append, List.map_append, List.map_cons, HXL.out]; exact a2
          refine AllReadyIn.cons rfl (fun K hK => ?_) AllReadyIn.nil
          go_simp; gi_wp2_with (refine ⟨trivial, ?_⟩; gi_at_call 36; refine (CallsIn.inRound l (callsIn_wide.2 C25.out)).mono ?_; rintro e w6 ⟨A6, n6, c6, rfl, hg6, hf6⟩; obtain ⟨A7, c7, w7, hrun, hc7, hz7, hall7⟩ := push_row (HGW.out.below B5.out.drew) HLM.out HM60.out (bx_below HBX.out B5.out.drew) HBGE.out (HCAP.out.below B5.out.drew) lp lq lr lk (HKG.out.below B5.out.drew) (HKR.out.below B5.out.drew) (bx_below HKE.out B5.out.drew) HL1.out HL2.out HL3.out hg6 hf6 (HN6.out A6 n6 c6 w6 hg6.1.1); have hc6 := (bx_below (bx_below HBX.out B5.out.drew) hg6.2.2).cell; have hc6x := (bx_below (bx_below (bx_below HBX.out B5.out.drew) hg6.2.2) ((Below.refl w6.heap.size w6).alloc (Nat.le_refl _) (.cells #[.slice A6 n6 c6] 25))).cell; have HALL := Lib.hid hall7.out; have HRUN := Lib.hid hrun; clear hg6 hf6 hall7 hrun); try (refine hK _ _ ?_; clear hK K)
          refine wpAnyIn_ready (rs := [0, 5]) (by kernel_rfl) (by simp) ?_
          refine AllReadyIn.cons rfl (fun K hK => ?_) ?_
          · go_simp; refine hK _ _ ?_; clear hK K
            refine wpAnyIn_ready (rs := [5]) (by kernel_rfl) (by simp) ?_
            refine AllReadyIn.cons rfl (fun K hK => ?_) AllReadyIn.nil
            go_simp; refine hK _ _ ?_; clear hK K
            refine wpAnyIn_ready (rs := [6]) (by kernel_rfl) (by simp) ?_
            refine AllReadyIn.cons rfl (fun K hK => ?_) AllReadyIn.nil
            refine stepIn_run (by rfl) (.tmp 38) (.tmp 43) 22 (by rfl) _ _ _ _ (by rfl) (by rfl) (HRUN.out _) ?_; refine hK _ _ ?_; clear hK K
            refine wpAnyIn_ready (rs := [7]) (by kernel_rfl) (by simp) ?_
            refine AllReadyIn.cons rfl (fun K hK => ?_) AllReadyIn.nil
            go_simp; refine hK _ _ ?_; clear hK K
            refine wpAnyIn_done (by kernel_rfl) ?_ _
            gi_wp2
            obtain ⟨a1, a2, a3, a4, a5, a6, a7, a8⟩ := HALL.out
            refine ⟨(keeps_below B5.out.drew).trans a7, ⟨(B5.out.drew.mono HBW.out.size).trans a8, fun _ => a3⟩, ?_, ⟨A7, c7, ?_, ?_⟩, a3, a4, a5, a6⟩
            · intro y hy
              rcases List.mem_append.1 hy with hy | hy
              · exact HCK.out y hy
              · obtain rfl : y = x := by simpa using hy
                rw [HXL.out]; exact HQ.out
            · rw [List.length_append]; exact a1
            · rw [List.length_append, List.map_append, List.map_cons, HXL.out]; exact a2
          refine AllReadyIn.cons rfl (fun K hK => ?_) AllReadyIn.nil
          go_simp; refine hK _ _ ?_; clear hK K
          refine wpAnyIn_ready (rs := [0]) (by kernel_rfl) (by simp) ?_
          refine AllReadyIn.cons rfl (fun K hK => ?_) AllReadyIn.nil
          go_simp; refine hK _ _ ?_; clear hK K
          refine wpAnyIn_ready (rs := [6]) (by kernel_rfl) (by simp) ?_
          refine AllReadyIn.cons rfl (fun K hK => ?_) AllReadyIn.nil
          refine stepIn_run (by rfl) (.tmp 38) (.tmp 43) 22 (by rfl) _ _ _ _ (by rfl) (by rfl) (HRUN.out _) ?_; refine hK _ _ ?_; clear hK K
          refine wpAnyIn_ready (rs := [7]) (by kernel_rfl) (by simp) ?_
          refine AllReadyIn.cons rfl (fun K hK => ?_) AllReadyIn.nil
          go_simp; refine hK _ _ ?_; clear hK K
          refine wpAnyIn_done (by kernel_rfl) ?_ _
          gi_wp2
          obtain ⟨a1, a2, a3, a4, a5, a6, a7, a8⟩ := HALL.out
          refine ⟨(keeps_below B5.out.drew).trans a7, ⟨(B5.out.drew.mono HBW.out.size).trans a8, fun _ => a3⟩, ?_, ⟨A7, c7, ?_, ?_⟩, a3, a4, a5, a6⟩
          · intro y hy
            rcases List.mem_append.1 hy with hy | hy
            · exact HCK.out y hy
            · obtain rfl : y = x := by simpa using hy
              rw [HXL.out]; exact HQ.out
          · rw [List.length_append]; exact a1
          · rw [List.length_append, List.map_append, List.map_cons, HXL.out]; exact a2
        · have hqb : (((qq : Nat) : Int) != 0) = true := nat_ne h0
          gi_wp2_with fail
          refine ⟨trivial, (CallsIn.inRound l (callsIn_wide.2 C1.out)).mono ?_⟩
          rintro e w5 ⟨rfl, b5⟩
          have r0 := (hkr.below b5).c0
          have r1 := (hkr.below b5).c1
          have r2 := (hkr.below b5).c2
          have rz := (hkr.below b5).z
          have e0 := (bx_below hke b5).cell
          have ez := (bx_below hke b5).frozen
          gi_wp2
          obtain ⟨k1, k2⟩ := ends22 (hkr.below b5) (bx_below hke b5) (by omega) 0 0 none 0 0 (qq : Int)
          refine ⟨(keeps_below b5).trans ((((KeepsOthers.setCell _ _ _).trans (KeepsOthers.setCell _ _ _)).trans (KeepsOthers.setCell _ _ _)).trans (KeepsOthers.setCell _ _ _)), rfl, ⟨pre, _, rfl, hck, by rw [HXL.out, hqq]; exact h0, by rw [HXL.out, hqq]; exact k2⟩, k1, ?_⟩
          exact (below_g3 (k := w.heap.size + 1) (hbW.trans (b5.mono hbW.size)) (Nat.le_succ _) _ _ _).setCell (p := ⟨w.heap.size + 1 + 1, 0, none⟩) (by show w.heap.size ≤ w.heap.size + 1 + 1; omega) _
      case done =>
        rintro D zs W hD rfl ⟨hck, ⟨A', c', hbx, hGW⟩, _, hkg, hkr, hke⟩ hK
        rw [HLEN.out] at hbx hGW
        have p0 := hkg.c0
        have p1 := hkg.c1
        have b0 := hbx.cell
        have r0 := hkr.c0
        have r1 := hkr.c1
        have r2 := hkr.c2
        have rz := hkr.z
        have e0 := hke.cell
        have ez := hke.frozen
        have HH := Lib.hid (HOK.out hck)
        have HGW := Lib.hid hGW
        have HKR := Lib.hid hkr
        have HKE := Lib.hid hke
        clear hck hbx hGW hkg hkr hke
        gi_wp2
        obtain ⟨k1, k2⟩ := ends22 HKR.out HKE.out (by omega) (v : Int) (n2 : Int) A' n2 c' 0
        have hG3 := (HGW.out.g3 HKR.out (by omega) (v : Int) (n2 : Int) (.slice A' n2 c')).box (k := w.heap.size + 1 + 1) (t := 26) (x := .int .i64 0) ((g3_other W _ _ _ _ _ (by omega)).trans HKE.out) (by decide) (fun s e => by cases e) (by omega) (.int .i64 0)
        have hKK : KeepsOthers W ((g3 W (w.heap.size + 1) (v : Int) (n2 : Int) (.slice A' n2 c')).setCell ⟨w.heap.size + 1 + 1, 0, none⟩ (.int .i64 0)) := (((KeepsOthers.setCell _ _ _).trans (KeepsOthers.setCell _ _ _)).trans (KeepsOthers.setCell _ _ _)).trans (KeepsOthers.setCell _ _ _)
        have hK' := hKK.same D _ hK rfl
        have hgp := fun U => grownBy_putObj' U D (.deferred none)
        refine ⟨by simp, .inl ⟨_, _, rfl, run_takeDeferred hK', ?_⟩⟩
        have hrr : ∀ r, some D = some r → ∃ o : Obj, ((g3 W (w.heap.size + 1) (v : Int) (n2 : Int) (.slice A' n2 c')).setCell ⟨w.heap.size + 1 + 1, 0, none⟩ (.int .i64 0)).heap[r]? = some o ∧ o.isCells = false := fun r e => by cases e; exact ⟨_, hK', rfl⟩
        have hG4 := hG3.turn (hgp _) (fun r e => ⟨by have := BW4.out.size; injection e with e; omega, hrr r e⟩)
        exact ⟨_, res22 rfl _ _ _ _ _ _ _ _ rfl rfl (k1.turn (hgp _) hrr) (bx_turn k2 (hgp _) hrr).cell, A', n2, c', by rw [HH.out]; rfl, by rw [HH.out]; exact hG4.gv, hG4.bel⟩
      case stop =>
        rintro D cc pre W hD hpre ⟨rfl, ⟨ini, x, rfl, hck, hx, hke⟩, hkr, hB⟩ hK
        have HH := Lib.hid (HBAD.out ini x hpre hck hx)
        gi_wp2
        refine ⟨by simp, .inl ⟨_, _, rfl, run_takeDeferred hK, ?_⟩⟩
        have hrr : ∀ r, some D = some r → ∃ o : Obj, W.heap[r]? = some o ∧ o.isCells = false := fun r e => by cases e; exact ⟨_, hK, rfl⟩
        exact ⟨_, res22 rfl _ _ _ _ _ _ _ _ rfl rfl (hkr.turn (grownBy_putObj' W D _) hrr) (bx_turn hke (grownBy_putObj' W D _) hrr).cell, none, 0, 0, by rw [HH.out]; rfl, by rw [HH.out]; exact Gv.nil _ _, hB.grown (grownBy_putObj' W D _) hB.size (fun r e => by have := BW4.out.size; injection e with e; omega)⟩
    · have HR : Hid (winR L W H G back = bad 2) := Lib.hid (by unfold winR; rw [hq, if_neg (by omega), hlL, if_pos hbk])
      subst hq0
      clear hq hl hg hsl hsg hnil hlL
      subst hV
      rcases (by omega : back < 0 ∨ (¬ back < 0 ∧ (n : Int) < back)) with hb | ⟨hb, hb2⟩
      all_goals
        refine (callsIn_wide (n := 6)).1 ?_
        refine callsIn_of_wp_marks Tryd.func22 rfl trivial ?_ rfl
        simp only [Tryd.ntmps22, List.size_toArray, List.length_cons, List.length_nil, Nat.reduceAdd, Nat.reduceSub, Array.replicate_succ, Array.replicate_zero, List.push_toArray, List.append_toArray, List.nil_append, List.cons_append]
        gi_wp2_with fail
        refine ⟨trivial, (callsIn_wide.2 CC.out).mono ?_⟩
        rintro e w1 ⟨rfl, b1⟩
        have r0 := (KR.out.below b1).c0
        have r1 := (KR.out.below b1).c1
        have r2 := (KR.out.below b1).c2
        have rz := (KR.out.below b1).z
        have e0 := (bx_below KE.out b1).cell
        have ez := (bx_below KE.out b1).frozen
        gi_wp2
        obtain ⟨k1, k2⟩ := ends22 (KR.out.below b1) (bx_below KE.out b1) (by omega) 0 0 none 0 0 2
        exact ⟨_, res22 rfl _ _ _ _ _ _ _ _ rfl rfl k1 k2.cell, none, 0, 0, by rw [HR.out]; rfl, by rw [HR.out]; exact Gv.nil _ _, (below_g3 (k := w.heap.size + 1) (BV.out.trans (b1.mono BV.out.size)) (Nat.le_succ _) _ _ _).setCell (p := ⟨w.heap.size + 1 + 1, 0, none⟩) (by show w.heap.size ≤ w.heap.size + 1 + 1; omega) _⟩
  · have hqb : (((q : Nat) : Int) != 0) = true := nat_ne hq0
    have HR : Hid (winR L W H G back = bad 1) := Lib.hid (by unfold winR; rw [hq, if_pos hq0])
    clear hq hl hg hsl hsg hlL
    subst hV
    refine (callsIn_wide (n := 6)).1 ?_
    refine callsIn_of_wp_marks Tryd.func22 rfl trivial ?_ rfl
    simp only [Tryd.ntmps22, List.size_toArray, List.length_cons, List.length_nil, Nat.reduceAdd, Nat.reduceSub, Array.replicate_succ, Array.replicate_zero, List.push_toArray, List.append_toArray, List.nil_append, List.cons_append]
    gi_wp2_with fail
    refine ⟨trivial, (callsIn_wide.2 CC.out).mono ?_⟩
    rintro e w1 ⟨rfl, b1⟩
    have r0 := (KR.out.below b1).c0
    have r1 := (KR.out.below b1).c1
    have r2 := (KR.out.below b1).c2
    have rz := (KR.out.below b1).z
    have e0 := (bx_below KE.out b1).cell
    have ez := (bx_below KE.out b1).frozen
    gi_wp2
    obtain ⟨k1, k2⟩ := ends22 (KR.out.below b1) (bx_below KE.out b1) (by omega) 0 0 none 0 0 1
    exact ⟨_, res22 rfl _ _ _ _ _ _ _ _ rfl rfl k1 k2.cell, none, 0, 0, by rw [HR.out]; rfl, by rw [HR.out]; exact Gv.nil _ _, (below_g3 (k := w.heap.size + 1) (BV.out.trans (b1.mono BV.out.size)) (Nat.le_succ _) _ _ _).setCell (p := ⟨w.heap.size + 1 + 1, 0, none⟩) (by show w.heap.size ≤ w.heap.size + 1 + 1; omega) _⟩

end Go.Proofs.YtgmgnlgolhjhmaaDoor
