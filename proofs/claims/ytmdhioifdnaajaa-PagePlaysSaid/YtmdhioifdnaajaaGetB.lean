/-
  What the call octet.Get comes to, at every text, place and count.
-/
import Derived.Test.YtmdhioifdnaajaaPut
import Derived.Test.YtmdhioifdnaajaaText
set_option linter.unusedVariables false
set_option linter.unusedSimpArgs false
namespace Go.Proofs.Ytmdhioifdnaajaa
open Go.RowKit

end Go.Proofs.Ytmdhioifdnaajaa
