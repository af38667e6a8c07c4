/-
  Pieces in a slice.
-/
import Derived.Test.YtnlbhmjgeedgpaaDoorSyMath
import Derived.Test.YtnlbhmjgeedgpaaDoorGen
set_option linter.unusedVariables false
set_option linter.unusedSimpArgs false
namespace Go.Proofs.YtnlbhmjgeedgpaaDoor
open Go.RowKit Go.Lib

/-- Pieces in a slice. -/
def IsPcs (w : World) (v : Value) (ps : List Mt.Pc) : Prop := ∃ a cap, v = .slice a ps.length cap ∧ Hid (∀ j (hj : j < ps.length), ∃ b off, a = some ⟨b, off, none⟩ ∧ b < w.heap.size ∧ w.cell? ⟨b, off + j * 2, none⟩ = some (.int .i64 ps[j].1) ∧ w.cell? ⟨b, off + j * 2 + 1, none⟩ = some (.string (Mt.str ps[j].2)))
section
variable {w u : World} {v : Value} {ps : List Mt.Pc}
theorem IsPcs.below (h : IsPcs w v ps) (hb : Below w.heap.size w u) : IsPcs u v ps := by
  obtain ⟨a, cap, e, h⟩ := h
  refine ⟨a, cap, e, Lib.hid fun j hj => ?_⟩
  obtain ⟨b, off, h0, h1, h2, h3⟩ := h.out j hj
  exact ⟨b, off, h0, Nat.lt_of_lt_of_le h1 hb.size, (hb.cell (p := ⟨b, _, none⟩) h1).trans h2, (hb.cell (p := ⟨b, _, none⟩) h1).trans h3⟩
end
end Go.Proofs.YtnlbhmjgeedgpaaDoor
