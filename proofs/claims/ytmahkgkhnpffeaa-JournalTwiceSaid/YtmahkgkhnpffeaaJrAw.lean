/-
  The example, reckoned: a new disk of six sectors, opened, with a record, crashed, opened again.
-/
import Derived.Test.YtmahkgkhnpffeaaJrW
namespace Go.Proofs.Ytmahkgkhnpffeaa.Mt
/-- The journal of a new disk; behind one record; behind a loss of power. -/
def aw0 : Dk := Dk.new 6
def aw1 : Dk × Jn × Int := openJ aw0
def aw2 : Dk × Jn × Int := appendJ aw1.1 aw1.2.1 [97]
def aw3 : Dk := aw2.1.crash 0 (-1) 0
theorem aw0_none : (findJ aw0).2 = [] := by decide +kernel
theorem aw1_ok : aw1.2.2 = 0 := by decide +kernel
theorem aw1_in : aw1.2.1.gen = 1 ∧ aw1.2.1.count = 0 ∧ aw1.2.1.used = 0 := by decide +kernel
theorem aw2_ok : aw2.2.2 = 0 := by decide +kernel
theorem aw2_in : aw2.2.1.gen = 1 ∧ aw2.2.1.left aw2.1 = 1 := by decide +kernel
theorem aw3_in : 4 ≤ aw3.lasts.length ∧ aw3.off = false := by decide +kernel
theorem aw3_recs : (findJ aw3).2 = [[97]] := by decide +kernel
theorem aw3_ok : (openJ aw3).2.2 = 0 := by decide +kernel
end Go.Proofs.Ytmahkgkhnpffeaa.Mt
