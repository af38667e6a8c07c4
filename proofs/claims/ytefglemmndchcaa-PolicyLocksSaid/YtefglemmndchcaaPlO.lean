/-
  As many failures in a row as lock, in plain lists.
-/
import Derived.Test.YtefglemmndchcaaPlT
namespace Go.Proofs.Ytefglemmndchcaa.Mt

/-- The times of the first failures. -/
def timesL (fr st : Int) (i : Nat) : List Int := (List.range i).map fun (j : Nat) => fr + st * (j : Int)
/-- The state behind so many failures. -/
def lockL (p : Po) (fr st : Int) (i : Nat) : Ps := if (i : Int) < p.fails then ⟨timesL fr st i, -1, fr⟩ else ⟨[], fr + st * (p.fails - 1), fr⟩
theorem timesL_len (fr st : Int) (i : Nat) : (timesL fr st i).length = i := by simp [timesL]
theorem timesL_succ (fr st : Int) (i : Nat) : timesL fr st (i + 1) = timesL fr st i ++ [fr + st * (i : Int)] := by unfold timesL; rw [List.range_succ]; simp
theorem timesL_zero (fr : Int) (i : Nat) : timesL fr 0 i = List.replicate i fr := by
  unfold timesL
  apply List.ext_getElem
  · simp
  · intro j h1 h2; simp
theorem timesL_pair (fr st : Int) (h : 0 ≤ st) (i : Nat) : (timesL fr st i).Pairwise (· ≤ ·) := by
  unfold timesL
  rw [List.pairwise_map]
  refine List.Pairwise.imp (fun {a b} hab => ?_) List.pairwise_lt_range
  have : st * (a : Int) ≤ st * (b : Int) := Int.mul_le_mul_of_nonneg_left (by omega) h
  omega
theorem timesL_mem {fr st x : Int} {i : Nat} (h : x ∈ timesL fr st i) : ∃ j : Nat, j < i ∧ x = fr + st * (j : Int) := by
  unfold timesL at h
  obtain ⟨j, hj, rfl⟩ := List.mem_map.1 h
  exact ⟨j, List.mem_range.1 hj, rfl⟩
theorem step_le {st : Int} (hs : st = 0 ∨ st = 1) (j : Nat) : 0 ≤ st * (j : Int) ∧ st * (j : Int) ≤ (j : Int) := by rcases hs with rfl | rfl <;> omega
section
variable {p : Po} {fr st : Int} (hp : okPo p = true) (hw : p.window = 0 ∨ 200 ≤ p.window) (hfr : 0 ≤ fr ∧ fr ≤ 1125899906842624) (hs : st = 0 ∨ st = 1)
include hp hfr hs
theorem lock_right (i : Nat) (hi : (i : Int) < p.fails) : rightB ⟨timesL fr st i, -1, fr⟩ = true := by
  have hp1 := (okPo_iff.1 hp).1
  rw [rightB_iff]
  refine ⟨by rw [timesL_len]; omega, timesL_pair fr st (by rcases hs with rfl | rfl <;> omega) i, isT_iff.2 (by simp only; omega), fun t ht => ?_, .inl rfl⟩
  obtain ⟨j, hj, rfl⟩ := timesL_mem ht
  have := step_le hs j
  exact isT_iff.2 (by omega)
include hw
theorem lock_step (i : Nat) (hi : (i : Int) < p.fails) : tryL p (lockL p fr st i) (fr + st * (i : Int)) false = (lockL p fr st (i + 1), 1) := by
  have hp1 := (okPo_iff.1 hp).1
  have hsi := step_le hs i
  have hl : lockL p fr st i = ⟨timesL fr st i, -1, fr⟩ := by unfold lockL; rw [if_pos hi]
  rw [hl]
  have hn : isT (fr + st * (i : Int)) = true := isT_iff.2 (by omega)
  rw [Go.Proofs.Ytefglemmndchcaa.Mt.try_fail (by rw [hp, lock_right hp hfr hs i hi, hn]; rfl) (by unfold lockedB; simp)]
  congr 1
  have hc : countL p ⟨timesL fr st i, -1, fr⟩ (fr + st * (i : Int)) = timesL fr st i := by
    unfold countL
    rw [if_pos rfl, List.filter_eq_self]
    intro t ht
    obtain ⟨j, hj, rfl⟩ := timesL_mem ht
    have h1 := step_le hs j
    unfold overB
    rcases hw with h | h
    · rw [h]; simp
    · have : decide (p.window ≤ fr + st * (i : Int) - (fr + st * (j : Int))) = false := decide_eq_false (by omega)
      rw [this]; simp
  have hin : insL (timesL fr st i) (fr + st * (i : Int)) = timesL fr st (i + 1) := by
    unfold insL aheadL behindL
    rcases hs with rfl | rfl
    · rw [timesL_zero, timesL_zero]
      have e1 : (List.replicate i fr).filter (fun t => decide (t < fr + 0 * (i : Int))) = [] := by
        rw [List.filter_eq_nil_iff]; intro t ht; rw [List.mem_replicate] at ht; simp; omega
      have e2 : (List.replicate i fr).filter (fun t => !decide (t < fr + 0 * (i : Int))) = List.replicate i fr := by
        rw [List.filter_eq_self]; intro t ht; rw [List.mem_replicate] at ht; simp; omega
      rw [e1, e2, List.nil_append, List.replicate_succ]
      congr 1; omega
    · have e1 : (timesL fr 1 i).filter (fun t => decide (t < fr + 1 * (i : Int))) = timesL fr 1 i := by
        rw [List.filter_eq_self]; intro t ht; obtain ⟨j, hj, rfl⟩ := timesL_mem ht; simp; omega
      have e2 : (timesL fr 1 i).filter (fun t => !decide (t < fr + 1 * (i : Int))) = [] := by
        rw [List.filter_eq_nil_iff]; intro t ht; obtain ⟨j, hj, rfl⟩ := timesL_mem ht; simp; omega
      rw [e1, e2, timesL_succ]
  unfold failL
  rw [hc, hin, timesL_len]
  have hpos : decide (0 < p.fails) = true := decide_eq_true (by omega)
  unfold lockL
  by_cases he : ((i + 1 : Nat) : Int) < p.fails
  · rw [if_neg (by rw [hpos, decide_eq_false (by omega)]; decide), if_pos he, lastL_short (by rw [timesL_len]; omega)]
  · have hf : p.fails = (i : Int) + 1 := by omega
    rw [if_pos (by rw [hpos, decide_eq_true (by omega)]; rfl), if_neg he, hf]
    simp only [Ps.mk.injEq, true_and, and_true]
    rw [show (i : Int) + 1 - 1 = (i : Int) by omega]
omit hw
theorem lock_end (hF : 0 < p.fails) {wait : Int} (hwt : 0 ≤ wait ∧ wait ≤ 1125899906842624) (right : Bool) :
    tryL p ⟨[], fr + st * (p.fails - 1), fr⟩ (fr + st * (p.fails - 1) + wait) right =
      if (decide (p.lock = 0) || decide (wait < p.lock)) = true then (⟨[], fr + st * (p.fails - 1), fr⟩, 2)
      else if right = false then (failL p ⟨[], fr + st * (p.fails - 1), fr⟩ (fr + st * (p.fails - 1) + wait), 1)
      else if (decide (0 < p.age) && decide (p.age ≤ fr + st * (p.fails - 1) + wait - fr)) = true then (⟨[], fr + st * (p.fails - 1), fr⟩, 3) else (newS fr, 0) := by
  have hp1 := (okPo_iff.1 hp).1
  have hsf : 0 ≤ st * (p.fails - 1) ∧ st * (p.fails - 1) ≤ 99 := by rcases hs with rfl | rfl <;> omega
  have hr : rightB ⟨[], fr + st * (p.fails - 1), fr⟩ = true := by
    rw [rightB_iff]
    exact ⟨by simp, List.Pairwise.nil, isT_iff.2 (by simp only; omega), by simp, .inr (isT_iff.2 (by simp only; omega))⟩
  have hn : isT (fr + st * (p.fails - 1) + wait) = true := isT_iff.2 (by omega)
  have hlk : lockedB p ⟨[], fr + st * (p.fails - 1), fr⟩ (fr + st * (p.fails - 1) + wait) = (decide (p.lock = 0) || decide (wait < p.lock)) := by
    unfold lockedB
    simp only
    rw [decide_eq_false (by omega), show fr + st * (p.fails - 1) + wait - (fr + st * (p.fails - 1)) = wait by omega]
    rfl
  unfold tryL
  rw [if_neg (by rw [hp, hr, hn]; decide), hlk]
  rfl
end
end Go.Proofs.Ytefglemmndchcaa.Mt
