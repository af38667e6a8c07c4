/-
  Some texts of one proof, one behind the other.
-/
import Derived.Test.YtnioagojiipjlaaGreatPk32
import Derived.Test.YtnioagojiipjlaaGreatPk40
import Derived.Test.YtnioagojiipjlaaGreatPk45
set_option linter.unusedVariables false
set_option linter.unusedSimpArgs false

/-
  Plain facts: what the document's Open gathers, sector by sector.
-/
namespace Go.Proofs.YtnioagojiipjlaaGreat
open Go.RowKit
namespace Mt
/-- The current head so far: its generation, its half, its sector (two spellings). -/
structure OpS where
  cur : Nat
  half : Nat
  head : Nat
  slot : Int
def opSt (h : Nat → Nat × Nat) : Nat → OpS
  | 0 => ⟨0, 1, 1, -1⟩
  | i + 1 => if i < 2 ∧ (opSt h i).cur < (h i).1 then ⟨(h i).1, (h i).2, i, i⟩ else opSt h i
def opMost (m : Nat → Nat) : Nat → Nat
  | 0 => 0
  | i + 1 => max (opMost m i) (m i)
def hdAt (d : Dk) (i : Nat) : Nat × Nat := rdHead (d.sec i)
def genAt (d : Dk) (i : Nat) : Nat := if i < 2 then (rdHead (d.sec i)).1 else (rdCell (d.sec i)).gen
theorem opSt_hit {h : Nat → Nat × Nat} {i : Nat} (h1 : i < 2) (h2 : (opSt h i).cur < (h i).1) : opSt h (i + 1) = ⟨(h i).1, (h i).2, i, i⟩ := by rw [opSt, if_pos ⟨h1, h2⟩]
theorem opSt_miss {h : Nat → Nat × Nat} {i : Nat} (h1 : ¬ (i < 2 ∧ (opSt h i).cur < (h i).1)) : opSt h (i + 1) = opSt h i := by rw [opSt, if_neg h1]
theorem opSt_late (h : Nat → Nat × Nat) : ∀ i, opSt h (i + 2) = opSt h 2
  | 0 => rfl
  | i + 1 => by
    show (if i + 2 < 2 ∧ _ then _ else opSt h (i + 2)) = _
    rw [if_neg (by omega), opSt_late h i]
theorem opSt_half (h : Nat → Nat × Nat) (hh : ∀ i, (h i).2 ≤ 1) : ∀ i, (opSt h i).half ≤ 1 ∧ (opSt h i).head ≤ 1 ∧ (((opSt h i).slot = 0 ∧ (opSt h i).head = 0) ∨ ((opSt h i).slot ≠ 0 ∧ (opSt h i).head = 1))
  | 0 => ⟨Nat.le_refl _, Nat.le_refl _, .inr ⟨(by decide : (-1 : Int) ≠ 0), rfl⟩⟩
  | i + 1 => by
    rw [opSt]
    split
    · rename_i h2
      refine ⟨hh i, by show i ≤ 1; omega, ?_⟩
      show ((i : Int) = 0 ∧ i = 0) ∨ ((i : Int) ≠ 0 ∧ i = 1)
      omega
    · exact opSt_half h hh i
theorem opMost_greatest (d : Dk) : ∀ k, opMost (genAt d) (2 + k) = greatest (d.cellsFrom 2 k) (rdHead (d.sec 0)).1 (rdHead (d.sec 1)).1
  | 0 => by
    show max (max 0 (genAt d 0)) (genAt d 1) = max _ _
    unfold genAt
    rw [if_pos (by decide), if_pos (by decide), Nat.zero_max]
  | k + 1 => by
    rw [cellsFrom_snoc, greatest_snoc, ← opMost_greatest d k]
    show max (opMost (genAt d) (2 + k)) (genAt d (2 + k)) = _
    unfold genAt
    rw [if_neg (by omega)]
theorem opMost_lt (d : Dk) : ∀ i, opMost (genAt d) i < 4294967296
  | 0 => by show 0 < 4294967296; decide
  | i + 1 => by
    have h1 := opMost_lt d i
    have h2 : genAt d i < 4294967296 := by
      unfold genAt
      split
      · exact (rdHead_gen _).1
      · exact rdCell_gen _
    show max _ _ < _
    omega
/-- What Open lays. -/
theorem findJ_op (d : Dk) : findJ d = (⟨opMost (genAt d) (2 + 2 * hsize d.lasts.length), (opSt (hdAt d) 2).half, (opSt (hdAt d) 2).head, 0, 0, false⟩,
    if (opSt (hdAt d) 2).cur = 0 then [] else records (d.cellsFrom (2 + (opSt (hdAt d) 2).half * hsize d.lasts.length) (hsize d.lasts.length)) (opSt (hdAt d) 2).cur) := by
  rw [opMost_greatest]
  have h1 : opSt (hdAt d) 1 = if 0 < (rdHead (d.sec 0)).1 then ⟨(rdHead (d.sec 0)).1, (rdHead (d.sec 0)).2, 0, 0⟩ else ⟨0, 1, 1, -1⟩ := by
    by_cases h : 0 < (rdHead (d.sec 0)).1
    · rw [if_pos h]; exact opSt_hit (h := hdAt d) (i := 0) (by decide) h
    · rw [if_neg h]; exact opSt_miss (h := hdAt d) (i := 0) (fun x => h x.2)
  have h2 : opSt (hdAt d) 2 = if (opSt (hdAt d) 1).cur < (rdHead (d.sec 1)).1 then ⟨(rdHead (d.sec 1)).1, (rdHead (d.sec 1)).2, 1, 1⟩ else opSt (hdAt d) 1 := by
    by_cases h : (opSt (hdAt d) 1).cur < (rdHead (d.sec 1)).1
    · rw [if_pos h]; exact opSt_hit (h := hdAt d) (i := 1) (by decide) h
    · rw [if_neg h]; exact opSt_miss (h := hdAt d) (i := 1) (fun x => h x.2)
  rw [h2, h1]
  unfold findJ
  generalize rdHead (d.sec 0) = H0
  generalize rdHead (d.sec 1) = H1
  simp only
  by_cases a : 0 < H0.1
  · rw [if_pos a]
    by_cases b : H1.1 ≤ H0.1
    · rw [if_pos ⟨b, a⟩, if_neg (show ¬ H0.1 < H1.1 by omega), if_neg (show ¬ H0.1 = 0 by omega)]
    · rw [if_neg (fun x => b x.1), if_neg (show ¬ H1.1 = 0 by omega), if_pos (show H0.1 < H1.1 by omega), if_neg (show ¬ H1.1 = 0 by omega)]
  · rw [if_neg a, if_neg (fun x => a x.2)]
    by_cases b : H1.1 = 0
    · rw [if_pos b, if_neg (show ¬ 0 < H1.1 by omega), if_pos rfl]
    · rw [if_neg b, if_pos (show 0 < H1.1 by omega), if_neg b]
end Mt
end Go.Proofs.YtnioagojiipjlaaGreat
