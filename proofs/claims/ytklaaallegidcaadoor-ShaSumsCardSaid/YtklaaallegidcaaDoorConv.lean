/-
  string(b) of a slice of the call's own.
-/
import Derived.Test.YtklaaallegidcaaDoorHex
import Derived.Test.YtklaaallegidcaaDoorText
namespace Go.Proofs.YtklaaallegidcaaDoor
open Go.RowKit

/-- string(b) of a slice of the call's own. -/
theorem conv_row (l : List UInt8) (B g n cap : Nat) (w : World) (hl : l.length = n) (hown : w.ownsRow B 5 1 (.slice (some ⟨g, 0, none⟩) n cap) n (Mt.cs l)) :
    (convert 51 9 (.slice (some ⟨g, 0, none⟩) n cap)).run Tryd.prog w = .ok (.string (Mt.str l)) w := by
  rw [← Mt.str_nums]
  exact run_convert_bytes_arg (P := Tryd.prog) w 51 5 Tryd.underlying51 Tryd.underlying5 g 0 n cap (l.map fun c => (c.toNat : Int)) (by simpa using hl) (fun i hi => by
    rw [Nat.zero_add, hown.cellAt _ (by omega)]
    simp [Mt.cs, List.getD, List.getElem?_eq_getElem (show i < l.length by omega)]) 9 Tryd.underlying9

/-- string(b[:m]) of a slice of the call's own. -/
theorem conv_take (l : List UInt8) (B g n cap : Nat) (w : World) (hl : l.length = n) (hown : w.ownsRow B 5 1 (.slice (some ⟨g, 0, none⟩) n cap) n (Mt.cs l)) (m : Nat) (hm : m ≤ n) :
    (convert 51 9 (.slice (some ⟨g, 0, none⟩) m cap)).run Tryd.prog w = .ok (.string (Mt.str (l.take m))) w := by
  rw [← Mt.str_nums]
  exact run_convert_bytes_arg (P := Tryd.prog) w 51 5 Tryd.underlying51 Tryd.underlying5 g 0 m cap ((l.take m).map fun c => (c.toNat : Int)) (by simp; omega) (fun i hi => by
    rw [Nat.zero_add, hown.cellAt _ (by omega)]
    simp [Mt.cs, List.getD, List.getElem?_eq_getElem (show i < l.length by omega), hi]) 9 Tryd.underlying9

end Go.Proofs.YtklaaallegidcaaDoor
