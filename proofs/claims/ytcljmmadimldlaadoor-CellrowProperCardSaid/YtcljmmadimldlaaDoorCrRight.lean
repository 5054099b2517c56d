/-
  The statement on proper results returns true.
-/
import Derived.Test.YtcljmmadimldlaaDoorCrFitsWalk
namespace Go.Proofs.YtcljmmadimldlaaDoor
open Go.RowKit Go.Shelf Cr

/-- What is asked of a result: none with an error, a proper row of n cells without. -/
def Right (n : Nat) (l : List C) (e : Nat) : Prop := (e ≠ 0 ∧ l = []) ∨ (e = 0 ∧ l.length = n ∧ check l = 0)
theorem right_put {l : List C} (hP : Pr l) (h1 : 1 ≤ l.length) (h2 : l.length ≤ 132) (col : Int) (t : ByteArray) (f b g : Int) : Right l.length (putL l col t f b g) (putE l col t) := by
  by_cases h : putE l col t = 0
  · have hc : colE l col = 0 := by
      unfold putE at h
      split at h
      · rename_i hh; exact absurd h hh
      · rename_i hh; omega
    obtain ⟨k, rfl, hk, _, _⟩ := colE_zero hc
    have ht : chk t = 0 ∧ ¬ (l.length : Int) < (k : Int) + wd t := by
      unfold putE at h
      rw [if_neg (by omega)] at h
      split at h
      · cases h
      · split at h
        · cases h
        · rename_i h3 h4
          exact ⟨by omega, h4⟩
    obtain ⟨m, hm⟩ : ∃ m : Nat, wd t = (m : Int) := by rcases wd_ok ht.1 with e | e; exact ⟨1, e⟩; exact ⟨2, e⟩
    have hg := put_good hP h1 h2 k (m := m) ht.1 hm (by omega) hk f b g
    have hcl := cells_Pr ht.1 f b g
    refine .inr ⟨h, ?_, ?_⟩
    · rw [hg.2, repl_length k (k + m) (by omega) (by omega) (by omega)]
    · rw [hg.2]
      exact check_good (repl_Pr hP hcl.1 _ _) (by rw [repl_length k (k + m) (by omega) (by omega) (by omega)]; exact h1) (by rw [repl_length k (k + m) (by omega) (by omega) (by omega)]; exact h2)
  · exact .inl ⟨h, by unfold putL; rw [if_pos h]⟩
theorem right_ins {l : List C} (hP : Pr l) (h1 : 1 ≤ l.length) (h2 : l.length ≤ 132) (col x b : Int) : Right l.length (insL l col x b) (colE l col) := by
  by_cases h : colE l col = 0
  · obtain ⟨k, rfl, hk, _, _⟩ := colE_zero h
    refine .inr ⟨h, ?_⟩
    unfold insL
    rw [if_neg (by omega)]
    split
    · exact ⟨rfl, check_good hP h1 h2⟩
    · rw [Int.toNat_natCast]
      have hl := ins_length (l := l) k (min x.toNat (l.length - k)) b (by omega)
      exact ⟨hl, check_good (ins_Pr hP _ _ _) (by omega) (by omega)⟩
  · exact .inl ⟨h, by unfold insL; rw [if_pos h]⟩
theorem right_del {l : List C} (hP : Pr l) (h1 : 1 ≤ l.length) (h2 : l.length ≤ 132) (col x b : Int) : Right l.length (delL l col x b) (colE l col) := by
  by_cases h : colE l col = 0
  · obtain ⟨k, rfl, hk, _, _⟩ := colE_zero h
    refine .inr ⟨h, ?_⟩
    unfold delL
    rw [if_neg (by omega)]
    split
    · exact ⟨rfl, check_good hP h1 h2⟩
    · rw [Int.toNat_natCast]
      have hl := del_length (l := l) k (min x.toNat (l.length - k)) b (by omega)
      exact ⟨hl, check_good (del_Pr hP _ _ _) (by omega) (by omega)⟩
  · exact .inl ⟨h, by unfold delL; rw [if_pos h]⟩
theorem right_era {l : List C} (hP : Pr l) (h1 : 1 ≤ l.length) (h2 : l.length ≤ 132) (i j b : Int) : Right l.length (eraL l i j b) (eraE l i j) := by
  by_cases h : eraE l i j = 0
  · refine .inr ⟨h, ?_⟩
    have hb : ¬ (i < 0 ∨ j < i ∨ (l.length : Int) < j) := by
      unfold eraE at h
      split at h
      · cases h
      · split at h
        · cases h
        · rename_i hh; exact hh
    unfold eraL
    rw [if_neg (by omega)]
    split
    · exact ⟨rfl, check_good hP h1 h2⟩
    · have hl := repl_length (l := l) (cs := blanks (j.toNat - i.toNat) b) i.toNat j.toNat (by omega) (by omega) (blanks_length _ _)
      exact ⟨hl, check_good (repl_Pr hP (blanks_Pr _ _) _ _) (by omega) (by omega)⟩
  · exact .inl ⟨h, by unfold eraL; rw [if_pos h]⟩

set_option maxHeartbeats 2000000 in
set_option maxRecDepth 100000 in
/-- The function inside the statement. -/
theorem right_any (p : Nat) (A : Option Addr) (n c : Nat) (A' : Option Addr) (n' c' : Nat) (m : List C) (e : Nat) (w : World) (hp : w.cell? ⟨p, 0, none⟩ = some (.slice A n c)) (hr : Rd w A' n' m) (hc : n' ≤ c') (hmax : n' ≤ 1000) (hs : Sm m) (hR : Right n m e) (hT : Lib.Utf8Tabs 0 1 w) :
    Calls Tryd.prog 31 #[.slice A' n' c', .int .i64 (e : Int), .pointer (some ⟨p, 0, none⟩)] w fun x w' => x = .returned (.bool true) ∧ Below w.heap.size w w' := by
  have hl : m.length = n' := hr.1
  rcases hR with ⟨he, rfl⟩ | ⟨rfl, hn, hck⟩
  · have hn0 : n' = 0 := hl.symm
    subst hn0
    have hqb : (((e : Nat) : Int) != 0) = true := nat_ne he
    go_enter Tryd.func31, Tryd.ntmps31
    go_wp2
    go_ret
    exact ⟨rfl, Below.refl _ _⟩
  · have hnn : n' = n := by rw [← hl, hn]
    subst hnn
    have CC := Lib.hid (checkRow_any A' n' c' m w hr hc (by omega) hs hT)
    rw [hck] at CC
    clear hr hT hck
    go_enter Tryd.func31, Tryd.ntmps31
    go_wp2_with fail
    refine CC.out.mono ?_
    rintro x w1 ⟨rfl, b1⟩
    go_wp2
    go_ret
    exact ⟨rfl, b1⟩

end Go.Proofs.YtcljmmadimldlaaDoor
