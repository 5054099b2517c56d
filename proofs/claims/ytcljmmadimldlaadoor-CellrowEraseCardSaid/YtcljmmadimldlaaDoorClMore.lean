/-
  More plain mathematics on clusters: the width of a string, and attaching a mark to it.
-/
import Derived.Test.YtcljmmadimldlaaDoorClMath
namespace Go.Proofs.YtcljmmadimldlaaDoor
namespace Cl
open U8 (fix encL enc1 run)

def widthC (l : List UInt8) : Int := if chk l = 0 then Cw.wd (baseOf l) else 0
def attE (l : List UInt8) (r : Int) : Nat :=
  if chk l ≠ 0 then chk l else if isMark r = false then 9 else if (marksOf l).length = 3 then 5 else 0
def attS (s : ByteArray) (r : Int) : ByteArray := if attE s.data.toList r = 0 then s ++ str [r] else ⟨#[]⟩

theorem good_parts {g : List Int} (h : Good g) : chk (encL g) = 0 ∧ baseOf (encL g) = fix (g.headD 0) ∧ marksOf (encL g) = (g.map fix).tail ∧ widthC (encL g) = widthOf g := by
  obtain ⟨h1, h2⟩ := chk_good h
  have e : baseOf (encL g) = fix (g.headD 0) := by
    unfold baseOf
    rw [if_pos h1, h2]
    obtain ⟨b, ms, rfl, _⟩ := h
    rfl
  refine ⟨h1, e, ?_, ?_⟩
  · unfold marksOf
    rw [if_pos h1, h2]
  · unfold widthC widthOf
    rw [if_pos h1, e]
/-- A cluster is its base and its marks. -/
theorem parts_whole {l : List UInt8} (h : chk l = 0) : (run l).1 = baseOf l :: marksOf l := by
  obtain ⟨hg, _, _⟩ := good_chk h
  unfold baseOf marksOf
  rw [if_pos h, if_pos h]
  obtain ⟨b, ms, e, _⟩ := hg
  rw [e]
  rfl
theorem widthC_bounds (l : List UInt8) : -1 ≤ widthC l ∧ widthC l ≤ 2 := by
  unfold widthC
  split
  · rcases Cw.wd_cases (baseOf l) with h | h | h | h <;> omega
  · omega
theorem chk_cases (l : List UInt8) : chk l = 0 ∨ chk l = 3 ∨ chk l = 5 ∨ chk l = 9 := by
  unfold chk
  repeat' split
  all_goals simp
theorem baseOf_range (l : List UInt8) : -2147483648 ≤ baseOf l ∧ baseOf l ≤ 2147483647 := by
  by_cases h : chk l = 0
  · have hm : baseOf l ∈ (run l).1 := by rw [parts_whole h]; exact .head _
    exact U8.run_range l _ hm
  · unfold baseOf
    rw [if_neg h]
    omega
theorem marksOf_len (l : List UInt8) : (marksOf l).length ≤ 3 := by
  by_cases h : chk l = 0
  · obtain ⟨hg, _, _⟩ := good_chk h
    have := hg.len
    rw [parts_whole h] at this
    simp at this
    omega
  · unfold marksOf
    rw [if_neg h]
    simp

end Cl
end Go.Proofs.YtcljmmadimldlaaDoor
