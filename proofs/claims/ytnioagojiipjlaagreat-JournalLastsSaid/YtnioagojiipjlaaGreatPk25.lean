/-
  Some texts of one proof, one behind the other.
-/
import Derived.Test.YtnioagojiipjlaaGreatPk23
import Derived.Test.YtnioagojiipjlaaGreatPk24
set_option linter.unusedVariables false
set_option linter.unusedSimpArgs false

/-
  Plain facts: records laid one behind the other are sectors written one behind the other.
-/
namespace Go.Proofs.YtnioagojiipjlaaGreat
open Go.RowKit
namespace Mt
theorem wrS_append (y : List (List UInt8)) : ∀ (x : List (List UInt8)) (d : Dk) (a : Nat), wrS d a (x ++ y) = if (wrS d a x).2 = 0 then wrS (wrS d a x).1 (a + x.length) y else wrS d a x
  | [], d, a => by simp [wrS]
  | s :: r, d, a => by
    rw [List.cons_append, wrS, wrS]
    by_cases h : (d.write a s).2 = 0
    · rw [if_pos h, if_pos h, wrS_append y r, List.length_cons, show a + 1 + r.length = a + (r.length + 1) by omega]
    · rw [if_neg h, if_neg h, if_neg h]
/-- The sectors of records, one behind the other. -/
def allSecs (gen : Nat) : Nat → List (List UInt8) → List (List UInt8)
  | _, [] => []
  | n, b :: r => secsOf gen n b ++ allSecs gen (n + 1) r
theorem secsOf_length (gen n : Nat) (b : List UInt8) : (secsOf gen n b).length = cellsN b.length := by unfold secsOf; rw [List.length_map, List.length_range]
theorem allSecs_length (gen : Nat) : ∀ (bs : List (List UInt8)) (n : Nat), (allSecs gen n bs).length = needs bs
  | [], _ => rfl
  | b :: r, n => by rw [allSecs, List.length_append, secsOf_length, allSecs_length gen r, needs]
theorem allSecs_append (gen : Nat) : ∀ (a b : List (List UInt8)) (n : Nat), allSecs gen n (a ++ b) = allSecs gen n a ++ allSecs gen (n + a.length) b
  | [], b, n => by simp [allSecs]
  | x :: r, b, n => by
    rw [List.cons_append, allSecs, allSecs_append gen r b, allSecs, List.append_assoc, List.length_cons, show n + 1 + r.length = n + (r.length + 1) by omega]
theorem putsJ_wr : ∀ (bs : List (List UInt8)) (d : Dk) (j : Jn), (putsJ d j bs).1 = (wrS d (j.first d.lasts.length + j.used) (allSecs j.gen j.count bs)).1 ∧ (putsJ d j bs).2.2 = (wrS d (j.first d.lasts.length + j.used) (allSecs j.gen j.count bs)).2 ∧
    ((putsJ d j bs).2.2 = 0 → (putsJ d j bs).2.1 = { j with count := j.count + bs.length, used := j.used + needs bs })
  | [], d, j => ⟨rfl, rfl, fun _ => rfl⟩
  | b :: r, d, j => by
    have hp1 : (putJ d j b).2.2 = (wrS d (j.first d.lasts.length + j.used) (secsOf j.gen j.count b)).2 := by
      unfold putJ; split
      · rename_i h; exact h.symm
      · rfl
    have hp2 : (putJ d j b).1 = (wrS d (j.first d.lasts.length + j.used) (secsOf j.gen j.count b)).1 := by unfold putJ; split <;> rfl
    rw [allSecs, wrS_append, putsJ]
    by_cases h : (wrS d (j.first d.lasts.length + j.used) (secsOf j.gen j.count b)).2 = 0
    · have hj : (putJ d j b).2.1 = { j with count := j.count + 1, used := j.used + cellsN b.length } := by unfold putJ; rw [if_pos h]
      have hl : (putJ d j b).1.lasts.length = d.lasts.length := by rw [hp2]; exact Mt.wrS_len _ _ _
      rw [if_pos (by rw [hp1]; exact h), if_pos h, hj, ← hp2, secsOf_length]
      have ih := putsJ_wr r (putJ d j b).1 { j with count := j.count + 1, used := j.used + cellsN b.length }
      have hf : (({ j with count := j.count + 1, used := j.used + cellsN b.length } : Jn).first (putJ d j b).1.lasts.length + ({ j with count := j.count + 1, used := j.used + cellsN b.length } : Jn).used) = j.first d.lasts.length + j.used + cellsN b.length := by
        rw [hl]; show j.first d.lasts.length + (j.used + cellsN b.length) = _; omega
      rw [hf] at ih
      refine ⟨ih.1, ih.2.1, fun h0 => ?_⟩
      rw [ih.2.2 h0, List.length_cons, needs]
      simp only [Jn.mk.injEq, true_and, and_true]
      omega
    · rw [if_neg (by rw [hp1]; exact h), if_neg h]
      exact ⟨hp2, hp1, fun h0 => absurd (hp1.symm.trans h0) h⟩
/-- What the document's Reset writes: the records, then the head. -/
def refLay (d : Dk) (j : Jn) (bs : List (List UInt8)) : Dk × Int :=
  if (wrF d (j.next.first d.lasts.length) (allSecs (j.gen + 1) 0 bs)).2 = 0 then wrF (wrF d (j.next.first d.lasts.length) (allSecs (j.gen + 1) 0 bs)).1 (1 - j.head) [hdSector (j.gen + 1) (1 - j.half)] else wrF d (j.next.first d.lasts.length) (allSecs (j.gen + 1) 0 bs)
theorem fillJ_ref (d : Dk) (j : Jn) (bs : List (List UInt8)) : (fillJ d j.next bs).1 = (refLay d j bs).1 ∧ (fillJ d j.next bs).2.2 = (refLay d j bs).2 ∧ ((fillJ d j.next bs).2.2 = 0 → (fillJ d j.next bs).2.1 = { j.next with count := bs.length, used := needs bs }) := by
  obtain ⟨h1, h2, h3⟩ := putsJ_wr bs d j.next
  have hu : j.next.first d.lasts.length + j.next.used = j.next.first d.lasts.length := rfl
  rw [hu] at h1 h2
  have hg : allSecs j.next.gen j.next.count bs = allSecs (j.gen + 1) 0 bs := rfl
  rw [hg] at h1 h2
  unfold fillJ refLay wrF
  by_cases h : (wrS d (j.next.first d.lasts.length) (allSecs (j.gen + 1) 0 bs)).2 = 0
  · have hj := h3 (h2.trans h)
    rw [if_pos (h2.trans h), if_pos h, hj, h1]
    generalize (wrS d (j.next.first d.lasts.length) (allSecs (j.gen + 1) 0 bs)).1 = D
    have hj2 : ({ j.next with count := j.next.count + bs.length, used := j.next.used + needs bs } : Jn) = { j.next with count := bs.length, used := needs bs } := by
      show Jn.mk _ _ _ (0 + bs.length) (0 + needs bs) _ = _
      rw [Nat.zero_add, Nat.zero_add]
    rw [hj2]
    have he : endJ D { j.next with count := bs.length, used := needs bs } = if D.flush.2 = 0 then (if (wrS D.flush.1 (1 - j.head) [hdSector (j.gen + 1) (1 - j.half)]).2 = 0 then (wrS D.flush.1 (1 - j.head) [hdSector (j.gen + 1) (1 - j.half)]).1.flush else wrS D.flush.1 (1 - j.head) [hdSector (j.gen + 1) (1 - j.half)]) else D.flush := by
      unfold endJ
      show (if D.flush.2 = 0 then (if (D.flush.1.write ((1 - j.head : Nat) : Int) (hdSector (j.gen + 1) (1 - j.half))).2 = 0 then (D.flush.1.write ((1 - j.head : Nat) : Int) (hdSector (j.gen + 1) (1 - j.half))).1.flush else D.flush.1.write ((1 - j.head : Nat) : Int) (hdSector (j.gen + 1) (1 - j.half))) else D.flush) = _
      by_cases hf : D.flush.2 = 0
      · rw [if_pos hf, if_pos hf]
        simp only [wrS]
        by_cases hw : (D.flush.1.write ((1 - j.head : Nat) : Int) (hdSector (j.gen + 1) (1 - j.half))).2 = 0
        · simp [hw]
        · simp [hw]
      · rw [if_neg hf, if_neg hf]
    rw [he]
    exact ⟨rfl, rfl, fun _ => rfl⟩
  · rw [if_neg (fun e => h (h2.symm.trans e)), if_neg h, if_neg h]
    exact ⟨h1, h2, fun e => absurd (h2.symm.trans e) h⟩
end Mt
end Go.Proofs.YtnioagojiipjlaaGreat
