/-
  Some texts of one proof, one behind the other.
-/
import Derived.Test.YtkinemlgifeimaaPk0
set_option linter.unusedVariables false
set_option linter.unusedSimpArgs false

/-
  No clone of texts at this seat.
-/
namespace Go.Proofs.Ytkinemlgifeimaa
end Go.Proofs.Ytkinemlgifeimaa
