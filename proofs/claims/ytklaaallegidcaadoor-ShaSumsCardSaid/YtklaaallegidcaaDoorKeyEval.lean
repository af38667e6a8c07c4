/-
  The primes and their roots, reckoned out.
-/
import Derived.Test.YtklaaallegidcaaDoorKeyMath
namespace Go.Proofs.YtklaaallegidcaaDoor.Mt

set_option maxRecDepth 100000 in
theorem pl_309 : (pl 309).length = 63 := by decide +kernel
set_option maxRecDepth 100000 in
theorem pl_310 : (pl 310).length = 64 := by decide +kernel
set_option maxRecDepth 100000 in
theorem roots : ((pl 310).take 8).map rootN = V0.list := by decide +kernel
set_option maxRecDepth 100000 in
theorem cubes : (pl 310).map cubeN = K := by decide +kernel
theorem pl_63 (k : Nat) (h : k ≤ 309) : (pl k).length ≤ 63 := by
  have h2 := pl_mono' k (309 - k)
  rw [show k + (309 - k) = 309 by omega, pl_309] at h2
  exact h2

end Go.Proofs.YtklaaallegidcaaDoor.Mt
