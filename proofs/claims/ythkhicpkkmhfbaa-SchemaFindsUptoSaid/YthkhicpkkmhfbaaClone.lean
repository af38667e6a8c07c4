/-
  Nothing here.
-/
import Derived.Test.YthkhicpkkmhfbaaMath
namespace Go.Proofs.Ythkhicpkkmhfbaa
end Go.Proofs.Ythkhicpkkmhfbaa
