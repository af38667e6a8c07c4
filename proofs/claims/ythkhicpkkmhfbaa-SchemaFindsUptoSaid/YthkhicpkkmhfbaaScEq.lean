/-
  What is wrong with a schema: the document's way and the program's come to the same.
-/
import Derived.Test.YthkhicpkkmhfbaaScT
namespace Go.Proofs.Ythkhicpkkmhfbaa
open Go.RowKit

namespace Mt
theorem atL_take {α : Type} (p : α → Bool) (l : List α) (i : Nat) (hi : i ≤ l.length) : atL p (l.take i) = if atL p l ≥ i then -1 else atL p l := by
  rcases atL_spec p l with ⟨h, h2⟩ | ⟨m, h, hm, h1, h2⟩
  · rw [h, if_neg (by omega)]
    rcases atL_spec p (l.take i) with ⟨g, _⟩ | ⟨k, g, hk, g1, _⟩
    · exact g
    · exfalso
      rw [List.getElem_take] at g1
      rw [List.length_take] at hk
      rw [h2 k (by omega)] at g1; cases g1
  · rw [h]
    rcases atL_spec p (l.take i) with ⟨g, g2⟩ | ⟨k, g, hk, g1, g2⟩
    · rw [g]
      by_cases hmi : m < i
      · exfalso
        have := g2 m (by rw [List.length_take]; omega)
        rw [List.getElem_take, h1] at this; cases this
      · rw [if_pos (by omega)]
    · rw [g]
      have hk' := hk
      rw [List.length_take] at hk'
      rw [List.getElem_take] at g1
      have e : k = m := by
        rcases Nat.lt_trichotomy k m with hlt | he | hgt
        · rw [h2 k hlt] at g1; cases g1
        · exact he
        · have := g2 m hgt
          rw [List.getElem_take, h1] at this; cases this
      rw [e, if_neg (by omega)]
theorem tyBef_lt (s : Sc) (i : Nat) (hi : i < s.types.length) : (0 ≤ tyBef s i (tyI s i).name) ↔ tyAt s (tyI s i).name < i := by
  have hg := tyI_get hi
  unfold tyBef
  rw [atL_take _ _ _ (by omega)]
  have hat : tyAt s (tyI s i).name = atL (fun t => sameN t.name (tyI s i).name) s.types := rfl
  rw [hat]
  have hne : 0 ≤ atL (fun t => sameN t.name (tyI s i).name) s.types := by
    rcases atL_spec (fun t => sameN t.name (tyI s i).name) s.types with ⟨_, h2⟩ | ⟨m, h, _⟩
    · exfalso
      have := h2 i hi
      rw [hg] at this
      simp [sameN] at this
    · omega
  split <;> omega
theorem clBef_lt (s : Sc) (i : Nat) (hi : i < s.classes.length) : (0 ≤ clBef s i (clI s i).name) ↔ clAt s (clI s i).name < i := by
  have hg := clI_get hi
  unfold clBef
  rw [atL_take _ _ _ (by omega)]
  have hat : clAt s (clI s i).name = atL (fun t => sameN t.name (clI s i).name) s.classes := rfl
  rw [hat]
  have hne : 0 ≤ atL (fun t => sameN t.name (clI s i).name) s.classes := by
    rcases atL_spec (fun t => sameN t.name (clI s i).name) s.classes with ⟨_, h2⟩ | ⟨m, h, _⟩
    · exfalso
      have := h2 i hi
      rw [hg] at this
      simp [sameN] at this
    · omega
  split <;> omega
theorem rUp_eq (s : Sc) (i : Nat) (hi : i ≤ s.classes.length) : rUp s i = supAt s i := by
  unfold rUp clBef supAt
  rw [atL_take _ _ _ hi]
  rfl
theorem rTy_eq (s : Sc) (i : Nat) (hi : i < s.types.length) : rTy s i = chkTy s i := by
  unfold rTy chkTy
  simp only [tyBef_lt s i hi]
theorem typL_nil : typL [] = false := rfl
theorem rCl_eq (s : Sc) (i : Nat) (hi : i < s.classes.length) (hp : ∀ j, j < i → typL (clI s j).name = true) : rCl s i = chkCl s i := by
  have hu := rUp_eq s i (by omega)
  have hk : ((clI s i).kind < 0 ∨ 2 < (clI s i).kind) ↔ ((clI s i).kind ≠ 0 ∧ (clI s i).kind ≠ 1 ∧ (clI s i).kind ≠ 2) := by omega
  have hsup : (clI s i).sup = [] → supAt s i < 0 := by
    intro he
    rw [← hu]
    unfold rUp clBef
    rcases atL_spec (fun c : Cl => sameN c.name (clI s i).sup) (s.classes.take i) with ⟨h, _⟩ | ⟨m, h, hm, h1, _⟩
    · omega
    · exfalso
      rw [List.length_take] at hm
      have hj := hp m (by omega)
      rw [List.getElem_take, he] at h1
      rw [clI_get (show m < s.classes.length by omega)] at hj
      simp only [sameN, foldL, List.map_nil, decide_eq_true_eq, List.map_eq_nil_iff] at h1
      rw [h1, typL_nil] at hj; cases hj
  unfold rCl chkCl
  simp only [clBef_lt s i hi, hk, hu, List.any_append]
  unfold rKind chkSup wrong
  rw [hu]
  by_cases h0 : (clI s i).sup = []
  · have h1 := hsup h0
    simp only [h0, ne_eq, not_true_eq_false, false_and, if_false, decide_false, Bool.false_and, Bool.or_false, decide_true, Bool.true_and, if_pos h1]
    repeat' split <;> simp_all
  · by_cases h1 : supAt s i < 0
    · simp [h0, h1]
    · simp only [h0, h1, ne_eq, not_false_eq_true, and_false, if_false, decide_false, decide_true, Bool.false_and, Bool.false_or, Bool.true_and]
      split
      · rfl
      · split
        · rfl
        · split
          · rfl
          · split <;> simp_all
theorem firstE_congr (f g : Nat → Int) : ∀ (k i : Nat), (∀ j, i ≤ j → j < i + k → (∀ h, i ≤ h → h < j → g h = 0) → f j = g j) → firstE f k i = firstE g k i
  | 0, _, _ => rfl
  | k + 1, i, h => by
    have h0 := h i (Nat.le_refl _) (by omega) (fun h hh hl => by omega)
    show (if f i ≠ 0 then f i else firstE f k (i + 1)) = (if g i ≠ 0 then g i else firstE g k (i + 1))
    rw [h0]
    by_cases hg : g i = 0
    · rw [if_neg (fun h => h hg), if_neg (fun h => h hg)]
      refine firstE_congr f g k (i + 1) (fun j h1 h2 h3 => h j (by omega) (by omega) (fun q hq1 hq2 => ?_))
      by_cases e : q = i
      · rw [e]; exact hg
      · exact h3 q (by omega) hq2
    · rw [if_pos hg, if_pos hg]
theorem rRoot_eq (s : Sc) : rRoot s = chkRoot s := by
  have e : tyAt s rootL = tyAt s rootN := by
    unfold tyAt sameN
    have : foldL rootL = foldL rootN := by decide
    rw [this]
  unfold rRoot chkRoot wrong
  rw [e]
  split
  · rfl
  · simp only [Bool.or_eq_true, decide_eq_true_eq]
theorem chkCl_typ {s : Sc} {i : Nat} (h : chkCl s i = 0) : typL (clI s i).name = true := by
  unfold chkCl at h
  by_cases hh : typL (clI s i).name = true
  · exact hh
  · rw [if_pos (by simpa using hh)] at h; cases h
/-- What the document asks is what the program does. -/
theorem rchk_eq (s : Sc) : rchk s = chk s := by
  have e1 : firstE (rTy s) s.types.length 0 = firstE (chkTy s) s.types.length 0 := firstE_congr _ _ _ _ (fun j _ h2 _ => rTy_eq s j (by omega))
  have e2 : firstE (rCl s) s.classes.length 0 = firstE (chkCl s) s.classes.length 0 := firstE_congr _ _ _ _ (fun j _ h2 h3 => rCl_eq s j (by omega) (fun q hq => chkCl_typ (h3 q (by omega) hq)))
  unfold rchk chk
  rw [e1, e2, rRoot_eq]
end Mt
end Go.Proofs.Ythkhicpkkmhfbaa
