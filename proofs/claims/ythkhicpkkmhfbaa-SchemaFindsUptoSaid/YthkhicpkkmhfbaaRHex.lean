/-
  What the document's digit comes to; string(b) of a slice of the call's own.
-/
import Derived.Test.YthkhicpkkmhfbaaHex
namespace Go.Proofs.Ythkhicpkkmhfbaa
open Go.RowKit

/-- string(b) of whatever slice of the call's own. -/
theorem conv_own (l : List Int) (B n : Nat) (v : Value) (w : World) (hown : w.ownsRow B 5 1 v n (l.map (Value.int .u8))) :
    (convert 77 9 v).run Try.prog w = .ok (.string (strOfNums l)) w := by
  have hl : l.length = n := by have := hown.1; simpa using this
  rcases hown.2 with ⟨rfl, rfl⟩ | ⟨g, cap, cur, rfl, _⟩
  · have : l = [] := List.eq_nil_of_length_eq_zero hl
    subst this
    exact run_convert_bytes_nil (P := Try.prog) w 77 5 Try.underlying77 Try.underlying5 0 0 9 Try.underlying9
  · exact run_convert_bytes_arg (P := Try.prog) w 77 5 Try.underlying77 Try.underlying5 g 0 n cap l hl (fun i hi => by
      rw [Nat.zero_add, hown.cellAt _ (by omega)]
      simp [List.getD, List.getElem?_eq_getElem (show i < l.length by omega)]) 9 Try.underlying9

end Go.Proofs.Ythkhicpkkmhfbaa
