/-
  Nothing: this seat has no Clone.
-/
import Derived.Test.YtmdhioifdnaajaaMath
set_option linter.unusedVariables false
set_option linter.unusedSimpArgs false
namespace Go.Proofs.Ytmdhioifdnaajaa
end Go.Proofs.Ytmdhioifdnaajaa
