/-
  What values of csiparam returns, for every string of at most 1000 parameter bytes: the parameters of the plain mathematics.
-/
import Derived.Test.YtihfjkjbeeoanaaDoorState
import Derived.Deep.RegionLaw
import Derived.Laws.EntriesVeiled
namespace Go.Proofs.YtihfjkjbeeoanaaDoor.Ci
open Go.RowKit Go.Shelf

/-- The variables hold what the plain mathematics has so far. -/
def At (w0 : World) (g : Nat) (w : World) (st : List Int × Int) : Prop := ∃ v, St w0 g w v st.1 st.2
theorem row_gives {w0 w : World} {base : Nat} {v : Value} {ps : List Int} (h : w.ownsRow base 3 1 v ps.length (ps.map (Value.int .i64))) (hb : Below w0.heap.size w0 w) (hbase : w0.heap.size ≤ base) : ∃ A n cap, v = .slice A n cap ∧ Gives w0 w A n cap ps := by
  rcases h.2 with ⟨e, e0⟩ | ⟨g, cap, cur, e, hg, _⟩
  · have hs : ps = [] := List.eq_nil_of_length_eq_zero e0
    subst hs
    exact ⟨none, 0, 0, e, ⟨rfl, fun j hj => by omega⟩, ⟨fun _ => ⟨rfl, rfl⟩, fun b off e => by cases e⟩, hb⟩
  · rw [e] at h
    exact ⟨_, _, cap, e, Nums.of_own h, ⟨(fun e => by cases e), fun b off e => by injection e with e; injection e with e; subst e; omega⟩, hb⟩
/-- The variables as they are laid. -/
theorem At.start (w : World) : At w w.heap.size ((w.alloc (.cells #[.slice none 0 0] 31)).alloc (.cells #[.int .i64 (-1)] 3)) ([], -1) := by
  have s1 : (w.alloc (.cells #[.slice none 0 0] 31)).heap.size = w.heap.size + 1 := by simp
  have e1 := heap_alloc_new w (.cells #[.slice none 0 0] 31)
  have e2 := heap_alloc_new (w.alloc (.cells #[.slice none 0 0] 31)) (.cells #[.int .i64 (-1)] 3)
  rw [s1] at e2
  refine ⟨.slice none 0 0, ⟨?_, e2⟩, World.ownsRow_nil _ _ _ _, ?_⟩
  · rw [Below.heap_alloc _ _ _ (by omega)]
    exact e1
  · exact ((Below.refl _ w).alloc (Nat.le_refl _) _).alloc (by omega) _
theorem collect_at (w0 : World) (g : Nat) (w : World) (st : List Int × Int) (h : At w0 g w st) (hl : st.1.length ≤ 10000) :
    Calls Tryd.prog 53 #[.pointer (some ⟨g, 0, none⟩), .pointer (some ⟨g + 1, 0, none⟩)] w
      fun e w' => e = .returned (.tuple #[]) ∧ At w0 g w' (st.1 ++ [st.2], -1) := by
  obtain ⟨v, h⟩ := h
  exact collect_any w0 g w v st.1 st.2 h hl
theorem At.ends {w0 : World} {w : World} {st : List Int × Int} (h : At w0 w0.heap.size w st) : ∃ A n cap, w.cell? ⟨w0.heap.size, 0, none⟩ = some (.slice A n cap) ∧ Gives w0 w A n cap st.1 := by
  obtain ⟨v, h⟩ := h
  obtain ⟨A, n, cap, e, hg⟩ := row_gives h.2.1 h.2.2 (by omega)
  exact ⟨A, n, cap, by rw [← e]; exact h.cellP.1, hg⟩
theorem take_go (l : List UInt8) (k : Nat) (hk : k < l.length) : Cp.go ([], -1) (l.take (k + 1)) = Cp.step (Cp.go ([], -1) (l.take k)) l[k] := by
  rw [List.take_succ_eq_append_getElem hk, Cp.go_snoc]
theorem all_take {p : UInt8 → Bool} (l : List UInt8) (k : Nat) (h : l.all p = true) : (l.take k).all p = true := by
  rw [List.all_eq_true] at h ⊢
  exact fun x hx => h x (List.mem_of_mem_take hx)
theorem all_at {p : UInt8 → Bool} (l : List UInt8) (k : Nat) (hk : k < l.length) (h : l.all p = true) : p l[k] = true := by
  rw [List.all_eq_true] at h
  exact h _ (List.getElem_mem hk)

set_option maxHeartbeats 2000000 in
set_option maxRecDepth 100000 in
theorem values_any (s : ByteArray) (w : World) (hs : s.size ≤ 1000) (hp : s.data.toList.all Cp.isPar = true) :
    Calls Tryd.prog 48 #[.string s] w fun e w' => ∃ A n cap, e = .returned (.slice A n cap) ∧ Gives w w' A n cap (Cp.vals s.data.toList) := by
  have hmf : ∀ (fn : Fn) (first cap : Array Value) (w : World), (Instr.makeFunc fn first cap).run Tryd.prog w = .ok (.func fn first cap) w := fun _ _ _ _ => rfl
  have hemp : s.toList.isEmpty = decide (s.size = 0) := by
    rw [Lib.toList_data, Lib.size_eq]
    cases s.data.toList <;> simp
  have hsl := Lib.size_eq s
  obtain ⟨V, hV⟩ : ∃ V, Cp.vals s.data.toList = V := ⟨_, rfl⟩
  rw [hV]
  by_cases h0 : s.size = 0
  · have hl : s.data.toList = [] := List.eq_nil_of_length_eq_zero (by omega)
    rw [hl] at hV
    subst hV
    rw [decide_eq_true h0] at hemp
    clear hl hsl hp
    go_enter Tryd.func48, Tryd.ntmps48
    go_wp2
    go_ret
    exact ⟨none, 0, 0, rfl, (Out.start w).gives⟩
  · rw [decide_eq_false h0] at hemp
    have hne : s.data.toList ≠ [] := fun e => by rw [e, List.length_nil] at hsl; omega
    have HV : Hid (Cp.vs (-1) s.data.toList = V) := Lib.hid (by rw [← hV]; unfold Cp.vals; rw [if_neg hne])
    have HP := Lib.hid hp
    have HSL := Lib.hid hsl
    clear hV hp hne hsl
    go_enter Tryd.func48, Tryd.ntmps48
    go_wp2
    go_loopg [6, 12] (s.size + 1) (fun gk _ i wr => ∃ k : Nat, gk + k = s.size + 1 ∧ k ≤ s.size ∧ i = .int .i64 (k : Int) ∧ Aside (At w w.heap.size wr (Cp.go ([], -1) (s.data.toList.take k))))
    case atStart =>
      refine ⟨0, by omega, Nat.zero_le _, rfl, ?_⟩
      exact At.start w
    case round =>
      obtain ⟨k, hg, hks, rfl, hat⟩ := hrel
      have hsl := HSL.out
      have hlen : (Cp.go ([], -1) (s.data.toList.take k)).1.length ≤ 1000 := by
        have := Cp.go_len (s.data.toList.take k)
        rw [List.length_take] at this
        omega
      have hcur := Cp.go_cur [] (-1) (s.data.toList.take k) (by omega) (all_take _ k HP.out)
      by_cases hlt : k < s.size
      · obtain ⟨g', rfl⟩ : ∃ g', gk = g' + 1 := ⟨gk - 1, by omega⟩
        have hz : (k : Int) < (s.size : Int) := by omega
        have hz0 : (0 : Int) ≤ (k : Int) := by omega
        have hkl : k < s.data.toList.length := by omega
        have hst := take_go s.data.toList k hkl
        have hpb := all_at _ k hkl HP.out
        obtain ⟨b, hb⟩ : ∃ b, s[k] = b := ⟨_, rfl⟩
        have hb' : s.data.toList[k] = b := hb
        rw [hb'] at hst hpb
        have HST := Lib.hid hst
        have HL := Lib.hid hsl
        clear hsl hst hb'
        generalize Cp.go ([], -1) (s.data.toList.take k) = st at hat HST hlen hcur
        obtain ⟨o, c⟩ := st
        simp only at hlen hcur
        by_cases h59 : b = 59
        · subst h59
          have hat' := hat.out
          have HST' : Hid (Cp.go ([], -1) (s.data.toList.take (k + 1)) = (o ++ [c], -1)) := Lib.hid (by rw [HST.out]; rfl)
          clear HST hpb hcur
          go_wp2_with fail
          refine (collect_at w w.heap.size wr (o, c) hat.out (by show o.length ≤ 10000; omega)).mono ?_
          rintro e w1 ⟨rfl, h1⟩
          have H1 : Aside (At w w.heap.size w1 (o ++ [c], -1)) := h1
          clear h1
          go_wp2
          go_roundg g'
          case measure => omega
          case rel => exact ⟨k + 1, by omega, by omega, by go_num, by rw [HST'.out]; exact H1⟩
        · have hd := Cp.par_digit b hpb h59
          have hbz : ((b.toNat : Int) == 59) = false := by
            simp only [beq_eq_false_iff_ne, ne_eq]
            intro e
            apply h59
            apply UInt8.toNat_inj.1
            show b.toNat = 59
            omega
          have HST' : Hid (Cp.go ([], -1) (s.data.toList.take (k + 1)) = (o, Cp.dg c b)) := Lib.hid (by rw [HST.out]; unfold Cp.step; rw [if_neg h59])
          have HD : Hid (Cp.dg c b = min (max c 0 * 10 + ((b.toNat : Int) - 48)) 10000) := Lib.hid rfl
          obtain ⟨v, hst⟩ := hat.out
          obtain ⟨hv1, hv2⟩ := hst.cellV
          have HS := Lib.hid hst
          have hd1 : (48 : Int) ≤ (b.toNat : Int) := by omega
          have hd2 : (b.toNat : Int) ≤ 57 := by omega
          obtain ⟨hc1, hc2⟩ := hcur
          clear HST hpb hst hat h59 hd
          go_wp2
          go_region
          have H1 : Aside (At w w.heap.size (wr.setCell ⟨w.heap.size + 1, 0, none⟩ (.int .i64 (min (max c 0 * 10 + ((b.toNat : Int) - 48)) 10000))).drew (o, Cp.dg c b)) := ⟨v, by
            rw [HD.out]
            exact (HS.out.setV _).drew⟩
          clear hv1 hv2
          generalize (wr.setCell ⟨w.heap.size + 1, 0, none⟩ (.int .i64 (min (max c 0 * 10 + ((b.toNat : Int) - 48)) 10000))).drew = w1 at H1 ⊢
          go_wp2
          go_roundg g'
          case measure => omega
          case rel => exact ⟨k + 1, by omega, by omega, by go_num, by rw [HST'.out]; exact H1⟩
      · have hz : ¬ (k : Int) < (s.size : Int) := by omega
        have htk : s.data.toList.take k = s.data.toList := List.take_of_length_le (by omega)
        rw [htk] at hat hlen
        have hfull := Cp.go_full [] (-1) s.data.toList
        rw [List.nil_append, HV.out] at hfull
        have HF := Lib.hid hfull
        generalize Cp.go ([], -1) s.data.toList = st at hat HF hlen
        clear hsl htk hfull hcur
        go_wp2_with fail
        refine (collect_at w w.heap.size wr st hat.out (by omega)).mono ?_
        rintro e w1 ⟨rfl, h1⟩
        rw [HF.out] at h1
        obtain ⟨A', n', c', hc, hg'⟩ := h1.ends
        have HG := Lib.hid hg'
        clear h1 hg'
        go_wp2
        go_ret
        exact ⟨A', n', c', rfl, HG.out⟩

end Go.Proofs.YtihfjkjbeeoanaaDoor.Ci
