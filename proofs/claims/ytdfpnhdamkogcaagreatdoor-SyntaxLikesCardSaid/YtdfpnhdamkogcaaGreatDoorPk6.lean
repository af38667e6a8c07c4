/-
  Some texts of one proof, one behind the other.
-/
import Derived.Test.YtdfpnhdamkogcaaGreatDoorPk0
import Derived.Test.YtdfpnhdamkogcaaGreatDoorPk5
set_option linter.unusedVariables false
set_option linter.unusedSimpArgs false

/-
  Whether a text is UTF-8: the library's call.
-/
namespace Go.Proofs.YtdfpnhdamkogcaaGreatDoor
open Go.RowKit Go.Lib
section
variable {w : World}
theorem sy_valid (s : ByteArray) (hs : s.size ≤ 9223372036854775807) (h : LaidY w) : Calls Tryz.prog 39 #[.string s] w fun e w' => e = .returned (.bool (Lib.validD s.data.toList)) ∧ Below w.heap.size w w' :=
  Any.utf8_ValidString Tryz.syValid s w hs h.utf
end
end Go.Proofs.YtdfpnhdamkogcaaGreatDoor
