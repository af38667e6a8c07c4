/-
  Some texts of one proof, one behind the other.
-/
import Derived.Test.YtkinemlgifeimaaPk0
import Derived.Test.YtkinemlgifeimaaPk3
set_option linter.unusedVariables false
set_option linter.unusedSimpArgs false

/-
  What the calls octet.value and octet.Unhex come to, at every text.
-/
namespace Go.Proofs.Ytkinemlgifeimaa
open Go.RowKit

theorem ret_val {a b : Int} (h : a = b) : Ending.returned (.tuple #[.int .u8 a, .bool true]) = .returned (.tuple #[.int .u8 b, .bool true]) := by rw [h]

theorem ret_pair {a : ByteArray} {b : Bool} {r : List UInt8 × Bool} (h : r = (a.data.toList, b)) : Ending.returned (.tuple #[.string a, .bool b]) = .returned (.tuple #[.string (Mt.str r.1), .bool r.2]) := by
  subst h; rfl

end Go.Proofs.Ytkinemlgifeimaa
