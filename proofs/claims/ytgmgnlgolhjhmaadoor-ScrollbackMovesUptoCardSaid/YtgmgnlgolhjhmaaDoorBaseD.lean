/-
  What the functions of utf8stream and cluster return that the layers above call.
-/
import Derived.Test.YtgmgnlgolhjhmaaDoorBaseB
import Derived.Test.YtgmgnlgolhjhmaaDoorBaseA
import Derived.Test.YtgmgnlgolhjhmaaDoorShelf
import Derived.Deep.DeepFit
import Derived.Deep.DeepMust
import Derived.Deep.DeepCutAuto
import Derived.Laws.AppendOwnNone
import Derived.Test.YtgmgnlgolhjhmaaDoorBaseC
namespace Go.Proofs.YtgmgnlgolhjhmaaDoor
open Go.RowKit Go.Shelf

/-- A slice that was just laid reads as its numbers. -/
theorem nums_new (w : World) (xs : List Int) (t : TypeId) (n : Nat) (hn : xs.length = n) : Nums (w.alloc (.cells (xs.map (Value.int .i32)).toArray t)) (w.heap.size + 1) (some ⟨w.heap.size, 0, none⟩) n xs := by
  refine ⟨hn, fun j hj => ⟨w.heap.size, 0, rfl, by omega, ?_⟩⟩
  have hx : j < xs.length := by omega
  rw [Nat.zero_add]
  have e : (w.alloc (.cells (xs.map (Value.int .i32)).toArray t)).heap[w.heap.size]? = some (.cells (xs.map (Value.int .i32)).toArray t) := heap_alloc_new w _
  unfold World.cell?
  rw [e]
  simp [hx]

theorem ext_bytes {a b : ByteArray} (h : a.data.toList = b.data.toList) : a = b := by
  cases a; cases b
  congr
  exact Array.toList_inj.1 h

end Go.Proofs.YtgmgnlgolhjhmaaDoor

namespace Go.Proofs.YtgmgnlgolhjhmaaDoor
open Go.RowKit Go.Shelf

/-- What a call that began in w leaves: a slice that reads as xs, and nothing that was there has turned. -/
def Gives (w w' : World) (A : Option Addr) (n cap : Nat) (xs : List Int) : Prop :=
  Nums w' w'.heap.size A n xs ∧ (A = none → n = 0 ∧ cap = 0) ∧ Below w.heap.size w w'
theorem Out.gives {w w' : World} {A : Option Addr} {n cap : Nat} {xs : List Int} (h : Out w w' (.slice A n cap) xs) : Gives w w' A n cap xs := by
  refine ⟨h.nums.2, fun e => ?_, h.2⟩
  subst e
  rcases h.1.2 with ⟨e, _⟩ | ⟨g, c, cur, e, _⟩
  · injection e with _ e1 e2; exact ⟨e1, e2⟩
  · injection e with e1; cases e1
theorem Gives.length {w w' : World} {A : Option Addr} {n cap : Nat} {xs : List Int} (h : Gives w w' A n cap xs) : n = xs.length := h.1.1.symm

theorem Out.reads {w0 w : World} {v : Value} {xs : List Int} (h : Out w0 w v xs) : ∃ A n cap, v = .slice A n cap ∧ Nums w w.heap.size A n xs := by
  obtain ⟨A, cap, e⟩ := h.slice
  subst e
  exact ⟨A, _, cap, rfl, h.nums.2⟩
/-- An empty slice that was just laid. -/
theorem Out.laid (w : World) : Out w (w.alloc (.cells #[] 21)) (.slice (some ⟨w.heap.size, 0, none⟩) 0 0) [] :=
  ⟨World.ownsRow_made w #[] 0 (Nat.le_refl _) (Nat.zero_le _) rfl, (Below.refl _ _).alloc (Nat.le_refl _) _⟩

end Go.Proofs.YtgmgnlgolhjhmaaDoor

namespace Go.Proofs.YtgmgnlgolhjhmaaDoor
open Go.RowKit Go.Shelf

theorem valid_any (s : ByteArray) (w : World) (hs : s.size ≤ 140737488351232) (hT : Lib.Utf8Tabs 0 1 w) :
    Calls Tryd.prog 74 #[.string s] w fun e w' => e = .returned (.bool (Lib.validD s.data.toList)) ∧ Below w.heap.size w w' := by
  have cV := Lib.hid (Tryd.utf8_ValidString s w (by omega) hT)
  go_enter Tryd.func74, Tryd.ntmps74
  go_wp2_with (go_at_call 86; refine cV.out.mono ?_; rintro e w1 ⟨rfl, hb⟩)
  go_ret
  exact ⟨rfl, hb⟩

end Go.Proofs.YtgmgnlgolhjhmaaDoor

namespace Go.Proofs.YtgmgnlgolhjhmaaDoor
open Go.RowKit Go.Shelf

/-- Go's conversion of a valid string to a slice of numbers: a new row that reads as the string's numbers. -/
theorem runes_of_valid (s : ByteArray) (xs : List Int) (hs : s.size ≤ 300) (hv : Lib.validD s.data.toList = true) (hx : (U8.run s.data.toList).1 = xs) :
    ∃ (G : World → Nat) (O : World → Obj), (∀ W : World, (convert 9 82 (.string s)).run Tryd.prog W = .ok (.slice (some ⟨W.heap.size, 0, none⟩) xs.length (G W)) ((W.alloc (O W)).drew)) ∧
      ∀ W : World, Nums ((W.alloc (O W)).drew) (W.heap.size + 1) (some ⟨W.heap.size, 0, none⟩) xs.length xs ∧ xs.length ≤ G W := by
  have hr := U8.runes_valid s hv
  rw [hx] at hr
  have hn : (Conv.runesFrom s s.size 0 #[]).size = xs.length := by rw [hr]; simp
  have hl : xs.length ≤ 300 := by rw [← hx]; exact Nat.le_trans (U8.run_out_le _) (by rw [← Lib.size_eq]; exact hs)
  refine ⟨fun W => grownCap W xs.length 0 21, fun W => .cells ((xs.map (Value.int .i32)).toArray ++ Array.replicate (grownCap W xs.length 0 21 - xs.length) (.int .i32 0)) 21, fun W => ?_, fun W => ?_⟩
  · have := run_runes_of_string (P := Tryd.prog) W 9 82 21 s Tryd.underlying9 Tryd.underlying82 Tryd.underlying21 (by rw [hn]; omega)
    rw [hn, hr] at this
    exact this
  · refine ⟨⟨rfl, fun j hj => ⟨W.heap.size, 0, rfl, by omega, ?_⟩⟩, grownCap_ge _ _ _ _⟩
    have e : (W.alloc (.cells ((xs.map (Value.int .i32)).toArray ++ Array.replicate (grownCap W xs.length 0 21 - xs.length) (.int .i32 0)) 21)).heap[W.heap.size]? = some (.cells ((xs.map (Value.int .i32)).toArray ++ Array.replicate (grownCap W xs.length 0 21 - xs.length) (.int .i32 0)) 21) := heap_alloc_new W _
    rw [Nat.zero_add]
    show (W.alloc _).cell? _ = _
    unfold World.cell?
    rw [e]
    simp [hj, Array.getElem?_append]

end Go.Proofs.YtgmgnlgolhjhmaaDoor

namespace Go.Proofs.YtgmgnlgolhjhmaaDoor
open Go.RowKit Go.Shelf

/-- What is left for the bytes l. -/
def Apart (w : World) (l : List UInt8) (e : Ending) (w' : World) : Prop :=
  ∃ A n cap, e = .returned (.tuple #[.int .i32 (Cl.baseOf l), .slice A n cap, .int .i64 (Cl.chk l : Nat)]) ∧ Gives w w' A n cap (Cl.marksOf l)
theorem Apart.bad {w w' : World} {l : List UInt8} {k : Nat} (h : Cl.chk l = k) (hk : k ≠ 0) (hb : Below w.heap.size w w') : Apart w l (.returned (.tuple #[.int .i32 0, .slice none 0 0, .int .i64 (k : Int)])) w' := by
  refine ⟨none, 0, 0, ?_, ?_⟩
  · unfold Cl.baseOf
    rw [h, if_neg hk]
  · unfold Cl.marksOf
    rw [h, if_neg hk]
    exact ⟨⟨rfl, fun j hj => by omega⟩, fun _ => ⟨rfl, rfl⟩, hb⟩

set_option maxHeartbeats 2000000 in
set_option maxRecDepth 100000 in
theorem parts_any (s : ByteArray) (w : World) (hs : s.size ≤ 300) (hT : Lib.Utf8Tabs 0 1 w) :
    Calls Tryd.prog 66 #[.string s] w (Apart w s.data.toList) := by
  by_cases h0 : s.data.toList = []
  · obtain rfl : s = ⟨#[]⟩ := ext_bytes h0
    clear h0
    go_enter Tryd.func66, Tryd.ntmps66
    go_wp2
    go_ret3
    exact Apart.bad (k := 3) (Cl.chk_bad (.inl rfl)) (by decide) (Below.refl _ _)
  · have hem : s.toList.isEmpty = false := by
      rw [Lib.toList_data]
      cases h : s.data.toList with
      | nil => exact absurd h h0
      | cons _ _ => rfl
    have cV := valid_any s w (by omega) hT
    cases hV : Lib.validD s.data.toList
    · rw [hV] at cV
      have HB := Lib.hid (Cl.chk_bad (.inr hV))
      have CV := Lib.hid cV
      clear cV hV h0
      go_enter Tryd.func66, Tryd.ntmps66
      go_wp2_with fail
      refine CV.out.mono ?_
      rintro e w1 ⟨rfl, b1⟩
      go_wp2
      go_ret3
      exact Apart.bad (k := 3) HB.out (by decide) b1
    · rw [hV] at cV
      have CV := Lib.hid cV
      obtain ⟨xs, hxs⟩ : ∃ xs, (U8.run s.data.toList).1 = xs := ⟨_, rfl⟩
      obtain ⟨G, O, hconv, hO⟩ := runes_of_valid s xs (by omega) hV hxs
      have hxl : xs.length ≤ 300 := by rw [← hxs]; exact Nat.le_trans (U8.run_out_le _) (by rw [← Lib.size_eq]; omega)
      obtain ⟨b, ms, rfl⟩ : ∃ b ms, xs = b :: ms := by
        cases xs with
        | nil =>
          obtain ⟨_, hq⟩ := (U8.valid_iff s.data.toList).1 hV
          rw [hxs] at hq
          exact absurd hq.symm h0
        | cons b ms => exact ⟨b, ms, rfl⟩
      have hchk := Cl.chk_valid (l := s.data.toList) (b := b) (ms := ms) (by rw [hV]; simp [h0]) hxs
      have HC := Lib.hid hchk
      have HX := Lib.hid hxs
      have HO := Lib.hid hO
      obtain ⟨n, hn⟩ : ∃ n, (b :: ms).length = n := ⟨_, rfl⟩
      have HN := Lib.hid hn
      rw [hn] at hconv hxl
      have hn1 : 1 ≤ n := by rw [← hn]; simp
      clear hchk hV hxs cV hO hn h0
      go_enter Tryd.func66, Tryd.ntmps66
      go_wp2_with fail
      refine CV.out.mono ?_
      rintro e w1 ⟨rfl, b1⟩
      have ho := (HO.out w1).1
      have hcap := (HO.out w1).2
      rw [HN.out] at ho hcap
      obtain ⟨k', hk'⟩ : ∃ k', G w1 = k' := ⟨_, rfl⟩
      have hcw := hconv w1
      rw [hk'] at hcw hcap
      have hz1 : (1 : Int) ≤ (n : Int) := by omega
      have hz2 : (n : Int) ≤ (k' : Int) := by omega
      have hz3 : (0 : Int) < (n : Int) := by omega
      have b2 : Below w.heap.size w ((w1.alloc (O w1)).drew) := (b1.alloc b1.size _).drew
      obtain ⟨bb, off, e0, _, hc0⟩ := ho.2 0 (by omega)
      injection e0 with e0
      injection e0 with e1 e2
      subst e1 e2
      simp only [Nat.add_zero, List.getD_cons_zero] at hc0
      have HM : Hid (Nums ((w1.alloc (O w1)).drew) (w1.heap.size + 1) (some ⟨w1.heap.size, 1, none⟩) (n - 1) ms) := Lib.hid ⟨by have := HN.out; simp at this; omega, fun j hj => by
        obtain ⟨b', off', e', _, hc'⟩ := ho.2 (j + 1) (by omega)
        injection e' with e'
        injection e' with e1 e2
        subst e1 e2
        refine ⟨w1.heap.size, 1, rfl, by omega, ?_⟩
        simp only [List.getD_cons_succ] at hc'
        have e3 : 1 + j = 0 + (j + 1) := by omega
        rw [e3]
        exact hc'⟩
      have hsz1 : w1.heap.size + 1 ≤ ((w1.alloc (O w1)).drew).heap.size := by show _ ≤ (w1.alloc (O w1)).heap.size; simp
      obtain ⟨W, hW⟩ : ∃ W, (w1.alloc (O w1)).drew = W := ⟨_, rfl⟩
      rw [hW] at hc0 hcw b2 HM hsz1
      clear hW ho hconv
      go_wp2_with fail
      go_quiet (fail)
      have b3 : Below w.heap.size w (W.drewN nq) := below_drewN b2 nq
      have hsz2 : w1.heap.size + 1 ≤ (W.drewN nq).heap.size := hsz1
      have HM2 : Hid (Nums (W.drewN nq) (w1.heap.size + 1) (if k' = 1 then some ⟨w1.heap.size, 0, none⟩ else some ⟨w1.heap.size, 1, none⟩) (n - 1) ms) := Lib.hid (by
        by_cases hk1 : k' = 1
        · refine ⟨HM.out.1, fun j hj => by omega⟩
        · rw [if_neg hk1]
          exact HM.out.drewN nq)
      have HA : Hid ((if k' = 1 then some (⟨w1.heap.size, 0, none⟩ : Addr) else some ⟨w1.heap.size, 1, none⟩) ≠ none) := Lib.hid (by split <;> simp)
      generalize (if k' = 1 then some (⟨w1.heap.size, 0, none⟩ : Addr) else some ⟨w1.heap.size, 1, none⟩) = A at HM2 HA ⊢
      generalize W.drewN nq = W2 at b3 hsz2 HM2 ⊢
      clear hc0 hcw b2 HM hsz1
      have cB := isBase_any b W2
      cases hbb : Cl.isBase b
      · rw [hbb] at cB
        have HK : Hid (Cl.chk s.data.toList = 9) := Lib.hid (by rw [HC.out, if_pos (.inl hbb)])
        clear hbb
        go_wp2_with fail
        refine cB.mono ?_
        rintro e w3 ⟨rfl, b4⟩
        go_wp2
        go_ret3
        exact Apart.bad (k := 9) HK.out (by decide) (b3.trans (b4.mono b3.size))
      · rw [hbb] at cB
        go_wp2_with fail
        refine cB.mono ?_
        rintro e w3 ⟨rfl, b4⟩
        have m4 := HM2.out.below b4 hsz2
        have s4 := b4.size
        have b5 := b3.trans (b4.mono b3.size)
        have cC := containsR_any A (n - 1) (k' - 1) (w1.heap.size + 1) ms w3 (by omega) m4 (by omega)
        have HM4 := Lib.hid m4
        clear m4 b3 b4 cB
        cases hmm : ms.all Cl.isMark
        · rw [hmm] at cC
          have HK : Hid (Cl.chk s.data.toList = 9) := Lib.hid (by rw [HC.out, if_pos (.inr hmm)])
          clear hmm hbb
          go_wp2_with fail
          refine cC.mono ?_
          rintro e w5 ⟨rfl, b6⟩
          go_wp2
          go_ret3
          exact Apart.bad (k := 9) HK.out (by decide) (b5.trans (b6.mono b5.size))
        · rw [hmm] at cC
          have hl1 := HM4.out.1
          by_cases h3 : 3 < ms.length
          · have HK : Hid (Cl.chk s.data.toList = 5) := Lib.hid (by rw [HC.out, if_neg (by rw [hbb, hmm]; simp), if_pos h3])
            have h3z : (3 : Int) < ((n - 1 : Nat) : Int) := by omega
            clear hmm hbb
            go_wp2_with fail
            refine cC.mono ?_
            rintro e w5 ⟨rfl, b6⟩
            go_wp2
            go_ret3
            exact Apart.bad (k := 5) HK.out (by decide) (b5.trans (b6.mono b5.size))
          · have HK : Hid (Cl.chk s.data.toList = 0) := Lib.hid (by rw [HC.out, if_neg (by rw [hbb, hmm]; simp), if_neg h3])
            have h3z : ¬ (3 : Int) < ((n - 1 : Nat) : Int) := by omega
            clear hmm hbb
            go_wp2_with fail
            refine cC.mono ?_
            rintro e w5 ⟨rfl, b6⟩
            go_wp2
            go_ret3
            refine ⟨A, n - 1, k' - 1, ?_, ?_⟩
            · unfold Cl.baseOf
              rw [HK.out, if_pos rfl, HX.out]
              rfl
            · unfold Cl.marksOf
              rw [HK.out, if_pos rfl, HX.out]
              have s6 := b6.size
              exact ⟨(HM4.out.below b6 (by omega)).more (by omega), (fun e => absurd e HA.out), b5.trans (b6.mono b5.size)⟩

end Go.Proofs.YtgmgnlgolhjhmaaDoor

namespace Go.Proofs.YtgmgnlgolhjhmaaDoor
open Go.RowKit Go.Shelf

theorem nat_ne {k : Nat} (h : k ≠ 0) : (((k : Nat) : Int) != 0) = true := by simp; omega

set_option maxHeartbeats 400000 in
set_option maxRecDepth 100000 in
theorem check_any (s : ByteArray) (w : World) (hs : s.size ≤ 300) (hT : Lib.Utf8Tabs 0 1 w) :
    Calls Tryd.prog 57 #[.string s] w fun e w' => e = .returned (.int .i64 (Cl.chk s.data.toList : Nat)) ∧ Below w.heap.size w w' := by
  have cP := Lib.hid (parts_any s w hs hT)
  go_enter Tryd.func57, Tryd.ntmps57
  go_wp2_with fail
  refine cP.out.mono ?_
  rintro e w1 ⟨A, n, cap, rfl, hg⟩
  have hb := hg.2.2
  clear hg
  go_wp2
  go_ret
  exact ⟨rfl, hb⟩
set_option maxHeartbeats 400000 in
set_option maxRecDepth 100000 in
theorem widthC_any (s : ByteArray) (w : World) (hs : s.size ≤ 300) (hT : Lib.Utf8Tabs 0 1 w) :
    Calls Tryd.prog 58 #[.string s] w fun e w' => e = .returned (.int .i64 (Cl.widthC s.data.toList)) ∧ Below w.heap.size w w' := by
  have cP := Lib.hid (parts_any s w hs hT)
  have HW : Hid (Cl.widthC s.data.toList = if Cl.chk s.data.toList = 0 then Cw.wd (Cl.baseOf s.data.toList) else 0) := Lib.hid rfl
  unfold Apart at cP
  generalize Cl.widthC s.data.toList = z at HW ⊢
  generalize Cl.baseOf s.data.toList = b at HW cP
  generalize Cl.chk s.data.toList = k at HW cP
  by_cases hk : k = 0
  · subst hk
    go_enter Tryd.func58, Tryd.ntmps58
    go_wp2_with fail
    refine cP.out.mono ?_
    rintro e w1 ⟨A, n, cap, rfl, hg⟩
    have hb := hg.2.2
    clear hg
    go_wp2_with fail
    refine (width_any b w1).mono ?_
    rintro e w2 ⟨rfl, b2⟩
    go_wp2
    go_ret
    exact ⟨ret_int (by rw [HW.out]; simp), hb.trans (b2.mono hb.size)⟩
  · have hne := nat_ne hk
    go_enter Tryd.func58, Tryd.ntmps58
    go_wp2_with fail
    refine cP.out.mono ?_
    rintro e w1 ⟨A, n, cap, rfl, hg⟩
    have hb := hg.2.2
    clear hg
    go_wp2
    go_ret
    exact ⟨ret_int (by rw [HW.out, if_neg hk]), hb⟩
end Go.Proofs.YtgmgnlgolhjhmaaDoor
