/-
  What the document's Get comes to, at every text, place and count.
-/
import Derived.Test.YtmdhioifdnaajaaGetB
set_option linter.unusedVariables false
set_option linter.unusedSimpArgs false
namespace Go.Proofs.Ytmdhioifdnaajaa
open Go.RowKit

end Go.Proofs.Ytmdhioifdnaajaa
