/-
  What Check of vtparse returns, for every event.
-/
import Derived.Test.YtckknodckiljkaaDoorEqual
namespace Go.Proofs.YtckknodckiljkaaDoor
open Go.RowKit

/-- What an event among the arguments is: its parameters are read, and its lengths fit. -/
def EvOk (w : World) (g : G) : Prop := Ci.Nums w w.heap.size g.A g.n g.e.ps ∧ g.n ≤ 9223372036854775807 ∧ g.e.i.length ≤ 9223372036854775807 ∧ g.e.t.length ≤ 9223372036854775807 ∧ ∀ z ∈ g.e.ps, -9223372036854775808 ≤ z ∧ z ≤ 9223372036854775807
theorem EvOk.below {w w' : World} {g : G} (h : EvOk w g) (hb : Below w.heap.size w w') : EvOk w' g := ⟨(h.1.below hb (Nat.le_refl _)).more hb.size, h.2⟩
theorem isCommand_wide (l : List UInt8) (w : World) (hl : l.length ≤ 9223372036854775807) :
    Calls Tryd.prog 39 #[.string (ba l)] w fun e w' => e = .returned (.bool (Vt.cmdOk l)) ∧ w = w' := by
  by_cases h : l.length ≤ 1000
  · exact isCommand_any l w h
  · have hbs : (ba l).size = l.length := ba_size l
    have hz : ¬ ((ba l).size : Int) ≤ 256 := by omega
    have hd : Vt.cmdOk l = false := by
      unfold Vt.cmdOk
      rw [decide_eq_false (by omega)]
      rfl
    rw [hd]
    clear hbs hd
    go_enter Tryd.func39, Tryd.ntmps39
    go_wp2
    go_ret
    exact ⟨rfl, rfl⟩
theorem nil_iff {w : World} {B : Nat} {A : Option Addr} {n : Nat} {xs : List Int} (h : Ci.Nums w B A n xs) : decide (n = 0) = decide (xs = []) := by
  have := h.1
  refine decide_eq_decide.2 ⟨fun e => List.eq_nil_of_length_eq_zero (by omega), fun e => by rw [e] at this; exact this.symm⟩

set_option maxHeartbeats 2000000 in
set_option maxRecDepth 100000 in
theorem check_1 (r : Int) (cc p : UInt8) (i : List UInt8) (ps : List Int) (t : List UInt8) (A : Option Addr) (n c : Nat) (w : World) (h : EvOk w ⟨⟨1, r, cc, p, i, ps, t⟩, A, n, c⟩) :
    Calls Tryd.prog 22 #[.agg #[.int .i64 1, .int .i32 r, .int .u8 (cc.toNat : Int), .int .u8 (p.toNat : Int), .string (ba i), .slice A n c, .string (ba t)]] w fun x w' => x = .returned (.int .i64 (if Vt.printed r && decide ((⟨1, r, cc, p, i, ps, t⟩ : Vt.E) = ⟨1, r, 0, 0, [], [], []⟩) then 0 else 1)) ∧ Below w.heap.size w w' := by
  have hb := pair_low w #[.int .i64 1, .int .i32 r, .int .u8 (cc.toNat : Int), .int .u8 (p.toNat : Int), .string (ba i), .slice A n c, .string (ba t)] #[.int .i64 1, .int .i32 r, .int .u8 0, .int .u8 0, .string ⟨#[]⟩, .slice none 0 0, .string ⟨#[]⟩]
  have cE := areEqual_any ⟨1, r, cc, p, i, ps, t⟩ ⟨1, r, 0, 0, [], [], []⟩ A none n 0 c 0 (pairE w #[.int .i64 1, .int .i32 r, .int .u8 (cc.toNat : Int), .int .u8 (p.toNat : Int), .string (ba i), .slice A n c, .string (ba t)] #[.int .i64 1, .int .i32 r, .int .u8 0, .int .u8 0, .string ⟨#[]⟩, .slice none 0 0, .string ⟨#[]⟩]) (fun W hW => by
    rw [← nil_iff h.1]
    exact equal_nil A n c W)
  have CV := fun W => isPrinted_any r W
  generalize decide ((⟨1, r, cc, p, i, ps, t⟩ : Vt.E) = ⟨1, r, 0, 0, [], [], []⟩) = Q at cE ⊢
  generalize hv : Vt.printed r = V at CV ⊢
  have CE := Lib.hid cE
  have CV := Lib.hid CV
  have HB := Lib.hid hb
  clear cE hb hv h
  cases V
  · go_enter Tryd.func22, Tryd.ntmps22
    go_wp2_with fail
    refine (CV.out _).mono ?_
    rintro e w' ⟨rfl, rfl⟩
    go_wp2
    go_ret
    exact ⟨rfl, HB.out⟩
  · go_enter Tryd.func22, Tryd.ntmps22
    go_wp2_with fail
    refine (CV.out _).mono ?_
    rintro e w' ⟨rfl, rfl⟩
    go_wp2_with fail
    refine CE.out.mono ?_
    rintro e w1 ⟨rfl, b1⟩
    have HB1 := Lib.hid (HB.out.trans (b1.mono HB.out.size))
    clear b1 CE CV HB
    cases Q
    · go_wp2
      go_ret
      exact ⟨rfl, HB1.out⟩
    · go_wp2
      go_ret
      exact ⟨rfl, HB1.out⟩

set_option maxHeartbeats 2000000 in
set_option maxRecDepth 100000 in
theorem check_2 (r : Int) (cc p : UInt8) (i : List UInt8) (ps : List Int) (t : List UInt8) (A : Option Addr) (n c : Nat) (w : World) (h : EvOk w ⟨⟨2, r, cc, p, i, ps, t⟩, A, n, c⟩) :
    Calls Tryd.prog 22 #[.agg #[.int .i64 2, .int .i32 r, .int .u8 (cc.toNat : Int), .int .u8 (p.toNat : Int), .string (ba i), .slice A n c, .string (ba t)]] w fun x w' => x = .returned (.int .i64 (if Vt.reported cc && decide ((⟨2, r, cc, p, i, ps, t⟩ : Vt.E) = ⟨2, 0, cc, 0, [], [], []⟩) then 0 else 1)) ∧ Below w.heap.size w w' := by
  have hb := pair_low w #[.int .i64 2, .int .i32 r, .int .u8 (cc.toNat : Int), .int .u8 (p.toNat : Int), .string (ba i), .slice A n c, .string (ba t)] #[.int .i64 2, .int .i32 0, .int .u8 (cc.toNat : Int), .int .u8 0, .string ⟨#[]⟩, .slice none 0 0, .string ⟨#[]⟩]
  have cE := areEqual_any ⟨2, r, cc, p, i, ps, t⟩ ⟨2, 0, cc, 0, [], [], []⟩ A none n 0 c 0 (pairE w #[.int .i64 2, .int .i32 r, .int .u8 (cc.toNat : Int), .int .u8 (p.toNat : Int), .string (ba i), .slice A n c, .string (ba t)] #[.int .i64 2, .int .i32 0, .int .u8 (cc.toNat : Int), .int .u8 0, .string ⟨#[]⟩, .slice none 0 0, .string ⟨#[]⟩]) (fun W hW => by
    rw [← nil_iff h.1]
    exact equal_nil A n c W)
  have CV := fun W => isReported_any cc W
  generalize decide ((⟨2, r, cc, p, i, ps, t⟩ : Vt.E) = ⟨2, 0, cc, 0, [], [], []⟩) = Q at cE ⊢
  generalize hv : Vt.reported cc = V at CV ⊢
  have CE := Lib.hid cE
  have CV := Lib.hid CV
  have HB := Lib.hid hb
  clear cE hb hv h
  cases V
  · go_enter Tryd.func22, Tryd.ntmps22
    go_wp2_with fail
    refine (CV.out _).mono ?_
    rintro e w' ⟨rfl, rfl⟩
    go_wp2
    go_ret
    exact ⟨rfl, HB.out⟩
  · go_enter Tryd.func22, Tryd.ntmps22
    go_wp2_with fail
    refine (CV.out _).mono ?_
    rintro e w' ⟨rfl, rfl⟩
    go_wp2_with fail
    refine CE.out.mono ?_
    rintro e w1 ⟨rfl, b1⟩
    have HB1 := Lib.hid (HB.out.trans (b1.mono HB.out.size))
    clear b1 CE CV HB
    cases Q
    · go_wp2
      go_ret
      exact ⟨rfl, HB1.out⟩
    · go_wp2
      go_ret
      exact ⟨rfl, HB1.out⟩

set_option maxHeartbeats 2000000 in
set_option maxRecDepth 100000 in
theorem check_3 (r : Int) (cc p : UInt8) (i : List UInt8) (ps : List Int) (t : List UInt8) (A : Option Addr) (n c : Nat) (w : World) (h : EvOk w ⟨⟨3, r, cc, p, i, ps, t⟩, A, n, c⟩) :
    Calls Tryd.prog 22 #[.agg #[.int .i64 3, .int .i32 r, .int .u8 (cc.toNat : Int), .int .u8 (p.toNat : Int), .string (ba i), .slice A n c, .string (ba t)]] w fun x w' => x = .returned (.int .i64 (if Vt.escOk i cc && decide ((⟨3, r, cc, p, i, ps, t⟩ : Vt.E) = ⟨3, 0, cc, 0, i, [], []⟩) then 0 else 1)) ∧ Below w.heap.size w w' := by
  have hb := pair_low w #[.int .i64 3, .int .i32 r, .int .u8 (cc.toNat : Int), .int .u8 (p.toNat : Int), .string (ba i), .slice A n c, .string (ba t)] #[.int .i64 3, .int .i32 0, .int .u8 (cc.toNat : Int), .int .u8 0, .string (ba i), .slice none 0 0, .string ⟨#[]⟩]
  have cE := fun W' => areEqual_any ⟨3, r, cc, p, i, ps, t⟩ ⟨3, 0, cc, 0, i, [], []⟩ A none n 0 c 0 W' (fun W hW => by
    rw [← nil_iff h.1]
    exact equal_nil A n c W)
  have CV := fun W => isEscape_any i cc W h.2.2.1
  generalize decide ((⟨3, r, cc, p, i, ps, t⟩ : Vt.E) = ⟨3, 0, cc, 0, i, [], []⟩) = Q at cE ⊢
  generalize hv : Vt.escOk i cc = V at CV ⊢
  have CE := Lib.hid cE
  have CV := Lib.hid CV
  have HB := Lib.hid hb
  clear cE hb hv h
  go_enter Tryd.func22, Tryd.ntmps22
  go_upto_region 12 with fail
  go_cut [33] (fun _ wx => wx = (pairE w #[.int .i64 3, .int .i32 r, .int .u8 (cc.toNat : Int), .int .u8 (p.toNat : Int), .string (ba i), .slice A n c, .string (ba t)] #[.int .i64 3, .int .i32 0, .int .u8 (cc.toNat : Int), .int .u8 0, .string (ba i), .slice none 0 0, .string ⟨#[]⟩]).drew)
  case first =>
    go_region
    all_goals
      go_wp2
      go_meet
      rfl
  case rest =>
    subst hcut
    have Q1 := Lib.hid ((pair_1 w #[.int .i64 3, .int .i32 r, .int .u8 (cc.toNat : Int), .int .u8 (p.toNat : Int), .string (ba i), .slice A n c, .string (ba t)] #[.int .i64 3, .int .i32 0, .int .u8 (cc.toNat : Int), .int .u8 0, .string (ba i), .slice none 0 0, .string ⟨#[]⟩]).below (Below.refl _ _).drew)
    have Q2 := Lib.hid ((pair_2 w #[.int .i64 3, .int .i32 r, .int .u8 (cc.toNat : Int), .int .u8 (p.toNat : Int), .string (ba i), .slice A n c, .string (ba t)] #[.int .i64 3, .int .i32 0, .int .u8 (cc.toNat : Int), .int .u8 0, .string (ba i), .slice none 0 0, .string ⟨#[]⟩]).below (Below.refl _ _).drew)
    have HB2 := Lib.hid HB.out.drew
    have BD : Hid (Below (pairE w #[.int .i64 3, .int .i32 r, .int .u8 (cc.toNat : Int), .int .u8 (p.toNat : Int), .string (ba i), .slice A n c, .string (ba t)] #[.int .i64 3, .int .i32 0, .int .u8 (cc.toNat : Int), .int .u8 0, .string (ba i), .slice none 0 0, .string ⟨#[]⟩]).heap.size (pairE w #[.int .i64 3, .int .i32 r, .int .u8 (cc.toNat : Int), .int .u8 (p.toNat : Int), .string (ba i), .slice A n c, .string (ba t)] #[.int .i64 3, .int .i32 0, .int .u8 (cc.toNat : Int), .int .u8 0, .string (ba i), .slice none 0 0, .string ⟨#[]⟩]) (pairE w #[.int .i64 3, .int .i32 r, .int .u8 (cc.toNat : Int), .int .u8 (p.toNat : Int), .string (ba i), .slice A n c, .string (ba t)] #[.int .i64 3, .int .i32 0, .int .u8 (cc.toNat : Int), .int .u8 0, .string (ba i), .slice none 0 0, .string ⟨#[]⟩]).drew) := Lib.hid (Below.refl _ _).drew
    generalize (pairE w #[.int .i64 3, .int .i32 r, .int .u8 (cc.toNat : Int), .int .u8 (p.toNat : Int), .string (ba i), .slice A n c, .string (ba t)] #[.int .i64 3, .int .i32 0, .int .u8 (cc.toNat : Int), .int .u8 0, .string (ba i), .slice none 0 0, .string ⟨#[]⟩]).drew = W at Q1 Q2 HB2 BD ⊢
    have a0 : W.cell? ⟨w.heap.size, 0, none⟩ = some (.int .i64 3) := Q1.out.cell 0
    have b0 : W.cell? ⟨w.heap.size + 1, 0, none⟩ = some (.int .i64 3) := Q2.out.cell 0
    have a1 : W.cell? ⟨w.heap.size, 1, none⟩ = some (.int .i32 r) := Q1.out.cell 1
    have b1 : W.cell? ⟨w.heap.size + 1, 1, none⟩ = some (.int .i32 0) := Q2.out.cell 1
    have a2 : W.cell? ⟨w.heap.size, 2, none⟩ = some (.int .u8 (cc.toNat : Int)) := Q1.out.cell 2
    have b2 : W.cell? ⟨w.heap.size + 1, 2, none⟩ = some (.int .u8 (cc.toNat : Int)) := Q2.out.cell 2
    have a3 : W.cell? ⟨w.heap.size, 3, none⟩ = some (.int .u8 (p.toNat : Int)) := Q1.out.cell 3
    have b3 : W.cell? ⟨w.heap.size + 1, 3, none⟩ = some (.int .u8 0) := Q2.out.cell 3
    have a4 : W.cell? ⟨w.heap.size, 4, none⟩ = some (.string (ba i)) := Q1.out.cell 4
    have b4 : W.cell? ⟨w.heap.size + 1, 4, none⟩ = some (.string (ba i)) := Q2.out.cell 4
    have a5 : W.cell? ⟨w.heap.size, 5, none⟩ = some (.slice A n c) := Q1.out.cell 5
    have b5 : W.cell? ⟨w.heap.size + 1, 5, none⟩ = some (.slice none 0 0) := Q2.out.cell 5
    have a6 : W.cell? ⟨w.heap.size, 6, none⟩ = some (.string (ba t)) := Q1.out.cell 6
    have b6 : W.cell? ⟨w.heap.size + 1, 6, none⟩ = some (.string ⟨#[]⟩) := Q2.out.cell 6
    cases V
    · go_wp2_with fail
      refine (CV.out _).mono ?_
      rintro e w' ⟨rfl, rfl⟩
      go_wp2
      go_ret
      exact ⟨rfl, HB2.out⟩
    · go_wp2_with fail
      refine (CV.out _).mono ?_
      rintro e w' ⟨rfl, rfl⟩
      go_wp2_with fail
      refine (CE.out _).mono ?_
      rintro e w1 ⟨rfl, b1⟩
      have HB1 := Lib.hid (HB2.out.trans (b1.mono HB2.out.size))
      clear b1 CE CV HB
      cases Q
      · go_wp2
        go_ret
        exact ⟨rfl, HB1.out⟩
      · go_wp2
        go_ret
        exact ⟨rfl, HB1.out⟩

set_option maxHeartbeats 2000000 in
set_option maxRecDepth 100000 in
theorem check_4 (r : Int) (cc p : UInt8) (i : List UInt8) (ps : List Int) (t : List UInt8) (A : Option Addr) (n c : Nat) (w : World) (h : EvOk w ⟨⟨4, r, cc, p, i, ps, t⟩, A, n, c⟩) (hP : Ci.Pw w) :
    Calls Tryd.prog 22 #[.agg #[.int .i64 4, .int .i32 r, .int .u8 (cc.toNat : Int), .int .u8 (p.toNat : Int), .string (ba i), .slice A n c, .string (ba t)]] w fun x w' => x = .returned (.int .i64 (if Vt.seqOk p ps i cc && decide ((⟨4, r, cc, p, i, ps, t⟩ : Vt.E) = ⟨4, 0, cc, p, i, ps, []⟩) then 0 else 1)) ∧ Below w.heap.size w w' := by
  have hb := pair_low w #[.int .i64 4, .int .i32 r, .int .u8 (cc.toNat : Int), .int .u8 (p.toNat : Int), .string (ba i), .slice A n c, .string (ba t)] #[.int .i64 4, .int .i32 0, .int .u8 (cc.toNat : Int), .int .u8 (p.toNat : Int), .string (ba i), .slice A n c, .string ⟨#[]⟩]
  have hX := h.below hb
  have cE := fun W' (hW' : Below (pairE w #[.int .i64 4, .int .i32 r, .int .u8 (cc.toNat : Int), .int .u8 (p.toNat : Int), .string (ba i), .slice A n c, .string (ba t)] #[.int .i64 4, .int .i32 0, .int .u8 (cc.toNat : Int), .int .u8 (p.toNat : Int), .string (ba i), .slice A n c, .string ⟨#[]⟩]).heap.size (pairE w #[.int .i64 4, .int .i32 r, .int .u8 (cc.toNat : Int), .int .u8 (p.toNat : Int), .string (ba i), .slice A n c, .string (ba t)] #[.int .i64 4, .int .i32 0, .int .u8 (cc.toNat : Int), .int .u8 (p.toNat : Int), .string (ba i), .slice A n c, .string ⟨#[]⟩]) W') => areEqual_any ⟨4, r, cc, p, i, ps, t⟩ ⟨4, 0, cc, p, i, ps, []⟩ A A n n c c W' (fun W hW => by
    rw [decide_eq_true rfl]
    exact equal_self A n c W.heap.size ps W h.2.1 ((hX.below hW').below hW).1)
  have CV := fun W (hW : Below (pairE w #[.int .i64 4, .int .i32 r, .int .u8 (cc.toNat : Int), .int .u8 (p.toNat : Int), .string (ba i), .slice A n c, .string (ba t)] #[.int .i64 4, .int .i32 0, .int .u8 (cc.toNat : Int), .int .u8 (p.toNat : Int), .string (ba i), .slice A n c, .string ⟨#[]⟩]).heap.size (pairE w #[.int .i64 4, .int .i32 r, .int .u8 (cc.toNat : Int), .int .u8 (p.toNat : Int), .string (ba i), .slice A n c, .string (ba t)] #[.int .i64 4, .int .i32 0, .int .u8 (cc.toNat : Int), .int .u8 (p.toNat : Int), .string (ba i), .slice A n c, .string ⟨#[]⟩]) W) => isSequence_any ⟨4, r, cc, p, i, ps, t⟩ A n c W (hX.below hW).1 h.2.1 h.2.2.1 ((hP.below hb).below hW) h.2.2.2.2
  generalize decide ((⟨4, r, cc, p, i, ps, t⟩ : Vt.E) = ⟨4, 0, cc, p, i, ps, []⟩) = Q at cE ⊢
  generalize hv : Vt.seqOk p ps i cc = V at CV ⊢
  have CE := Lib.hid cE
  have CV := Lib.hid CV
  have HB := Lib.hid hb
  clear cE hb hv h hX hP
  go_enter Tryd.func22, Tryd.ntmps22
  go_upto_region 15 with fail
  go_cut [52] (fun _ wx => wx = (pairE w #[.int .i64 4, .int .i32 r, .int .u8 (cc.toNat : Int), .int .u8 (p.toNat : Int), .string (ba i), .slice A n c, .string (ba t)] #[.int .i64 4, .int .i32 0, .int .u8 (cc.toNat : Int), .int .u8 (p.toNat : Int), .string (ba i), .slice A n c, .string ⟨#[]⟩]).drew)
  case first =>
    go_region
    all_goals
      go_wp2
      go_meet
      rfl
  case rest =>
    subst hcut
    have Q1 := Lib.hid ((pair_1 w #[.int .i64 4, .int .i32 r, .int .u8 (cc.toNat : Int), .int .u8 (p.toNat : Int), .string (ba i), .slice A n c, .string (ba t)] #[.int .i64 4, .int .i32 0, .int .u8 (cc.toNat : Int), .int .u8 (p.toNat : Int), .string (ba i), .slice A n c, .string ⟨#[]⟩]).below (Below.refl _ _).drew)
    have Q2 := Lib.hid ((pair_2 w #[.int .i64 4, .int .i32 r, .int .u8 (cc.toNat : Int), .int .u8 (p.toNat : Int), .string (ba i), .slice A n c, .string (ba t)] #[.int .i64 4, .int .i32 0, .int .u8 (cc.toNat : Int), .int .u8 (p.toNat : Int), .string (ba i), .slice A n c, .string ⟨#[]⟩]).below (Below.refl _ _).drew)
    have HB2 := Lib.hid HB.out.drew
    have BD : Hid (Below (pairE w #[.int .i64 4, .int .i32 r, .int .u8 (cc.toNat : Int), .int .u8 (p.toNat : Int), .string (ba i), .slice A n c, .string (ba t)] #[.int .i64 4, .int .i32 0, .int .u8 (cc.toNat : Int), .int .u8 (p.toNat : Int), .string (ba i), .slice A n c, .string ⟨#[]⟩]).heap.size (pairE w #[.int .i64 4, .int .i32 r, .int .u8 (cc.toNat : Int), .int .u8 (p.toNat : Int), .string (ba i), .slice A n c, .string (ba t)] #[.int .i64 4, .int .i32 0, .int .u8 (cc.toNat : Int), .int .u8 (p.toNat : Int), .string (ba i), .slice A n c, .string ⟨#[]⟩]) (pairE w #[.int .i64 4, .int .i32 r, .int .u8 (cc.toNat : Int), .int .u8 (p.toNat : Int), .string (ba i), .slice A n c, .string (ba t)] #[.int .i64 4, .int .i32 0, .int .u8 (cc.toNat : Int), .int .u8 (p.toNat : Int), .string (ba i), .slice A n c, .string ⟨#[]⟩]).drew) := Lib.hid (Below.refl _ _).drew
    generalize (pairE w #[.int .i64 4, .int .i32 r, .int .u8 (cc.toNat : Int), .int .u8 (p.toNat : Int), .string (ba i), .slice A n c, .string (ba t)] #[.int .i64 4, .int .i32 0, .int .u8 (cc.toNat : Int), .int .u8 (p.toNat : Int), .string (ba i), .slice A n c, .string ⟨#[]⟩]).drew = W at Q1 Q2 HB2 BD ⊢
    have a0 : W.cell? ⟨w.heap.size, 0, none⟩ = some (.int .i64 4) := Q1.out.cell 0
    have b0 : W.cell? ⟨w.heap.size + 1, 0, none⟩ = some (.int .i64 4) := Q2.out.cell 0
    have a1 : W.cell? ⟨w.heap.size, 1, none⟩ = some (.int .i32 r) := Q1.out.cell 1
    have b1 : W.cell? ⟨w.heap.size + 1, 1, none⟩ = some (.int .i32 0) := Q2.out.cell 1
    have a2 : W.cell? ⟨w.heap.size, 2, none⟩ = some (.int .u8 (cc.toNat : Int)) := Q1.out.cell 2
    have b2 : W.cell? ⟨w.heap.size + 1, 2, none⟩ = some (.int .u8 (cc.toNat : Int)) := Q2.out.cell 2
    have a3 : W.cell? ⟨w.heap.size, 3, none⟩ = some (.int .u8 (p.toNat : Int)) := Q1.out.cell 3
    have b3 : W.cell? ⟨w.heap.size + 1, 3, none⟩ = some (.int .u8 (p.toNat : Int)) := Q2.out.cell 3
    have a4 : W.cell? ⟨w.heap.size, 4, none⟩ = some (.string (ba i)) := Q1.out.cell 4
    have b4 : W.cell? ⟨w.heap.size + 1, 4, none⟩ = some (.string (ba i)) := Q2.out.cell 4
    have a5 : W.cell? ⟨w.heap.size, 5, none⟩ = some (.slice A n c) := Q1.out.cell 5
    have b5 : W.cell? ⟨w.heap.size + 1, 5, none⟩ = some (.slice A n c) := Q2.out.cell 5
    have a6 : W.cell? ⟨w.heap.size, 6, none⟩ = some (.string (ba t)) := Q1.out.cell 6
    have b6 : W.cell? ⟨w.heap.size + 1, 6, none⟩ = some (.string ⟨#[]⟩) := Q2.out.cell 6
    go_wp2_with fail
    refine (CV.out _ BD.out).mono ?_
    rintro e w2 ⟨rfl, b2⟩
    have BD2 := Lib.hid (BD.out.trans (b2.mono BD.out.size))
    have HB3 := Lib.hid (HB2.out.trans (b2.mono HB2.out.size))
    have Q1 := Lib.hid (Q1.out.below b2)
    have Q2 := Lib.hid (Q2.out.below b2)
    clear b2 CV HB BD HB2 a0 a1 a2 a3 a4 a5 a6 b0 b1 b3 b4 b5 b6
    cases V
    · go_wp2
      go_ret
      exact ⟨rfl, HB3.out⟩
    · have CE1 := Lib.hid (CE.out w2 BD2.out)
      clear CE
      have a0 : w2.cell? ⟨w.heap.size, 0, none⟩ = some (.int .i64 4) := Q1.out.cell 0
      have b0 : w2.cell? ⟨w.heap.size + 1, 0, none⟩ = some (.int .i64 4) := Q2.out.cell 0
      have a1 : w2.cell? ⟨w.heap.size, 1, none⟩ = some (.int .i32 r) := Q1.out.cell 1
      have b1 : w2.cell? ⟨w.heap.size + 1, 1, none⟩ = some (.int .i32 0) := Q2.out.cell 1
      have a2 : w2.cell? ⟨w.heap.size, 2, none⟩ = some (.int .u8 (cc.toNat : Int)) := Q1.out.cell 2
      have b2 : w2.cell? ⟨w.heap.size + 1, 2, none⟩ = some (.int .u8 (cc.toNat : Int)) := Q2.out.cell 2
      have a3 : w2.cell? ⟨w.heap.size, 3, none⟩ = some (.int .u8 (p.toNat : Int)) := Q1.out.cell 3
      have b3 : w2.cell? ⟨w.heap.size + 1, 3, none⟩ = some (.int .u8 (p.toNat : Int)) := Q2.out.cell 3
      have a4 : w2.cell? ⟨w.heap.size, 4, none⟩ = some (.string (ba i)) := Q1.out.cell 4
      have b4 : w2.cell? ⟨w.heap.size + 1, 4, none⟩ = some (.string (ba i)) := Q2.out.cell 4
      have a5 : w2.cell? ⟨w.heap.size, 5, none⟩ = some (.slice A n c) := Q1.out.cell 5
      have b5 : w2.cell? ⟨w.heap.size + 1, 5, none⟩ = some (.slice A n c) := Q2.out.cell 5
      have a6 : w2.cell? ⟨w.heap.size, 6, none⟩ = some (.string (ba t)) := Q1.out.cell 6
      have b6 : w2.cell? ⟨w.heap.size + 1, 6, none⟩ = some (.string ⟨#[]⟩) := Q2.out.cell 6
      go_wp2_with fail
      refine CE1.out.mono ?_
      rintro e w3 ⟨rfl, b9⟩
      have HB1 := Lib.hid (HB3.out.trans (b9.mono HB3.out.size))
      clear b9 CE1
      cases Q
      · go_wp2
        go_ret
        exact ⟨rfl, HB1.out⟩
      · go_wp2
        go_ret
        exact ⟨rfl, HB1.out⟩

set_option maxHeartbeats 2000000 in
set_option maxRecDepth 100000 in
theorem check_5 (r : Int) (cc p : UInt8) (i : List UInt8) (ps : List Int) (t : List UInt8) (A : Option Addr) (n c : Nat) (w : World) (h : EvOk w ⟨⟨5, r, cc, p, i, ps, t⟩, A, n, c⟩) :
    Calls Tryd.prog 22 #[.agg #[.int .i64 5, .int .i32 r, .int .u8 (cc.toNat : Int), .int .u8 (p.toNat : Int), .string (ba i), .slice A n c, .string (ba t)]] w fun x w' => x = .returned (.int .i64 (if Vt.cmdOk t && decide ((⟨5, r, cc, p, i, ps, t⟩ : Vt.E) = ⟨5, 0, 0, 0, [], [], t⟩) then 0 else 1)) ∧ Below w.heap.size w w' := by
  have hb := pair_low w #[.int .i64 5, .int .i32 r, .int .u8 (cc.toNat : Int), .int .u8 (p.toNat : Int), .string (ba i), .slice A n c, .string (ba t)] #[.int .i64 5, .int .i32 0, .int .u8 0, .int .u8 0, .string ⟨#[]⟩, .slice none 0 0, .string (ba t)]
  have cE := areEqual_any ⟨5, r, cc, p, i, ps, t⟩ ⟨5, 0, 0, 0, [], [], t⟩ A none n 0 c 0 (pairE w #[.int .i64 5, .int .i32 r, .int .u8 (cc.toNat : Int), .int .u8 (p.toNat : Int), .string (ba i), .slice A n c, .string (ba t)] #[.int .i64 5, .int .i32 0, .int .u8 0, .int .u8 0, .string ⟨#[]⟩, .slice none 0 0, .string (ba t)]) (fun W hW => by
    rw [← nil_iff h.1]
    exact equal_nil A n c W)
  have CV := fun W => isCommand_wide t W h.2.2.2.1
  generalize decide ((⟨5, r, cc, p, i, ps, t⟩ : Vt.E) = ⟨5, 0, 0, 0, [], [], t⟩) = Q at cE ⊢
  generalize hv : Vt.cmdOk t = V at CV ⊢
  have CE := Lib.hid cE
  have CV := Lib.hid CV
  have HB := Lib.hid hb
  clear cE hb hv h
  cases V
  · go_enter Tryd.func22, Tryd.ntmps22
    go_wp2_with fail
    refine (CV.out _).mono ?_
    rintro e w' ⟨rfl, rfl⟩
    go_wp2
    go_ret
    exact ⟨rfl, HB.out⟩
  · go_enter Tryd.func22, Tryd.ntmps22
    go_wp2_with fail
    refine (CV.out _).mono ?_
    rintro e w' ⟨rfl, rfl⟩
    go_wp2_with fail
    refine CE.out.mono ?_
    rintro e w1 ⟨rfl, b1⟩
    have HB1 := Lib.hid (HB.out.trans (b1.mono HB.out.size))
    clear b1 CE CV HB
    cases Q
    · go_wp2
      go_ret
      exact ⟨rfl, HB1.out⟩
    · go_wp2
      go_ret
      exact ⟨rfl, HB1.out⟩

set_option maxHeartbeats 1000000 in
set_option maxRecDepth 100000 in
theorem check_other (k r : Int) (cc p : UInt8) (i t : List UInt8) (A : Option Addr) (n c : Nat) (w : World) (hk : ¬ (1 ≤ k ∧ k ≤ 5)) :
    Calls Tryd.prog 22 #[.agg #[.int .i64 k, .int .i32 r, .int .u8 (cc.toNat : Int), .int .u8 (p.toNat : Int), .string (ba i), .slice A n c, .string (ba t)]] w fun x w' => x = .returned (.int .i64 9) ∧ Below w.heap.size w w' := by
  have d1 : (k == 1) = false := by simp; omega
  have d2 : (k == 2) = false := by simp; omega
  have d3 : (k == 3) = false := by simp; omega
  have d4 : (k == 4) = false := by simp; omega
  have d5 : (k == 5) = false := by simp; omega
  go_enter Tryd.func22, Tryd.ntmps22
  go_wp2
  go_ret
  exact ⟨rfl, pair_low w _ _⟩
/-- What Check returns. -/
theorem check_any (g : G) (w : World) (h : EvOk w g) (hP : Ci.Pw w) :
    Calls Tryd.prog 22 #[.agg #[.int .i64 g.e.k, .int .i32 g.e.r, .int .u8 (g.e.c.toNat : Int), .int .u8 (g.e.p.toNat : Int), .string (ba g.e.i), .slice g.A g.n g.c, .string (ba g.e.t)]] w fun x w' => x = .returned (.int .i64 (Vt.chk g.e)) ∧ Below w.heap.size w w' := by
  obtain ⟨⟨k, r, cc, p, i, ps, t⟩, A, n, c⟩ := g
  by_cases hk : 1 ≤ k ∧ k ≤ 5
  · have e : Vt.chk ⟨k, r, cc, p, i, ps, t⟩ = if Vt.fits ⟨k, r, cc, p, i, ps, t⟩ && decide ((⟨k, r, cc, p, i, ps, t⟩ : Vt.E) = Vt.only ⟨k, r, cc, p, i, ps, t⟩) then 0 else 1 := by
      unfold Vt.chk
      rw [if_pos hk]
    rw [e]
    obtain rfl | rfl | rfl | rfl | rfl : k = 1 ∨ k = 2 ∨ k = 3 ∨ k = 4 ∨ k = 5 := by omega
    · exact check_1 r cc p i ps t A n c w h
    · exact check_2 r cc p i ps t A n c w h
    · exact check_3 r cc p i ps t A n c w h
    · exact check_4 r cc p i ps t A n c w h hP
    · exact check_5 r cc p i ps t A n c w h
  · have e : Vt.chk ⟨k, r, cc, p, i, ps, t⟩ = 9 := by
      unfold Vt.chk
      rw [if_neg hk]
    rw [e]
    exact check_other k r cc p i t A n c w hk

end Go.Proofs.YtckknodckiljkaaDoor
