/-
  Some texts of one proof, one behind the other.
-/
import Derived.Deep.RegionHeld3
import Derived.Deep.Cut
import Derived.Test.YtkinemlgifeimaaPk2
import Derived.Test.YtkinemlgifeimaaPk3
import Derived.Test.YtkinemlgifeimaaPk20
set_option linter.unusedVariables false
set_option linter.unusedSimpArgs false

/-
  What slices.ContainsFunc comes to at an RDN, with the two tests that the program hands to it; what dn.has comes to.
-/
namespace Go.Proofs.Ytkinemlgifeimaa
open Go.RowKit

/-- Types and values in a slice, wherever they lie. -/
def IsAvs (w : World) (v : Value) (r : List Mt.Av) : Prop :=
  ∃ a cap, v = .slice a r.length cap ∧ r.length ≤ 9223372036854775807 ∧ r.length ≤ cap ∧ (r = [] ∨ ∃ b off, a = some ⟨b, off, none⟩ ∧ b < w.heap.size ∧ ∀ j (hj : j < r.length), w.cell? ⟨b, off + j * 2, none⟩ = some (.string (Mt.str r[j].1)) ∧ w.cell? ⟨b, off + j * 2 + 1, none⟩ = some (.string (Mt.str r[j].2)))
theorem IsAvs.below {w u : World} {v : Value} {r : List Mt.Av} (h : IsAvs w v r) (hb : Below w.heap.size w u) : IsAvs u v r := by
  obtain ⟨a, cap, h1, h2, h2', h3⟩ := h
  refine ⟨a, cap, h1, h2, h2', ?_⟩
  rcases h3 with h3 | ⟨b, off, h4, h5, h6⟩
  · exact .inl h3
  · exact .inr ⟨b, off, h4, Nat.lt_of_lt_of_le h5 hb.size, fun j hj => ⟨by rw [hb.cell (p := ⟨b, off + j * 2, none⟩) h5]; exact (h6 j hj).1, by rw [hb.cell (p := ⟨b, off + j * 2 + 1, none⟩) h5]; exact (h6 j hj).2⟩⟩
theorem IsAvs.take {w : World} {v : Value} {r : List Mt.Av} (h : IsAvs w v r) (i : Nat) (hi : i ≤ r.length) : ∃ a cap, v = .slice a r.length cap ∧ IsAvs w (.slice a i cap) (r.take i) := by
  obtain ⟨a, cap, h1, h2, h2', h3⟩ := h
  have hl : (r.take i).length = i := by simp; omega
  refine ⟨a, cap, h1, a, cap, by rw [hl], by omega, by omega, ?_⟩
  rcases h3 with h3 | ⟨b, off, h4, h5, h6⟩
  · exact .inl (by rw [h3]; simp)
  · exact .inr ⟨b, off, h4, h5, fun j hj => by
      have hj2 : j < r.length := by rw [hl] at hj; omega
      have e : (r.take i)[j] = r[j] := List.getElem_take
      rw [e]; exact h6 j hj2⟩
/-- One of them by value. -/
def avV (a : Mt.Av) : Value := .agg #[.string (Mt.str a.1), .string (Mt.str a.2)]
theorem box2_of {w : World} {b : Nat} {x y : Value} {T : TypeId} {fr : Nat × Nat} (h : w.heap[b]? = some (.cells #[x, y] T fr)) : w.cell? ⟨b, 0, none⟩ = some x ∧ w.cell? ⟨b, 1, none⟩ = some y := by
  simp [World.cell?, h]
theorem Mt.beq_dec (x y : ByteArray) : (x.toList == y.toList) = decide (x = y) := by
  rw [Bool.eq_iff_iff]
  simp only [beq_iff_eq, decide_eq_true_eq, ByteArray.toList_eq]
  constructor
  · intro h; apply ByteArray.ext; exact Array.ext' h
  · rintro rfl; rfl
end Go.Proofs.Ytkinemlgifeimaa
