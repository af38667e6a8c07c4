/-
  What the calls octet.fits and octet.Put come to, at every input: contracts, walked over the program's text.
-/
import Derived.Test.YtnlbhmjgeedgpaaDoorProg
import Derived.Test.YtnlbhmjgeedgpaaDoorMath
import Derived.WalkKit
import Derived.Lib.Hide
import Derived.WalkSpells
import Derived.WalkLawsBesides
set_option linter.unusedVariables false
set_option linter.unusedSimpArgs false
namespace Go.Proofs.YtnlbhmjgeedgpaaDoor
open Go.RowKit

theorem Tryd.info5 : (Tryd.prog.info? 5).map (fun i => (i.zero, i.size, i.bytes)) = some (some (.int .u8 0), 1, 1) := by kernel_rfl

theorem conv_one (wr : World) (x : Int) : (convert 54 9 (.slice (some ⟨wr.heap.size, 0, none⟩) 1 1)).run Tryd.prog (wr.alloc (.cells #[.int .u8 x] 5)) =
    .ok (.string (strOfNums [x])) (wr.alloc (.cells #[.int .u8 x] 5)) :=
  run_convert_bytes_arg (P := Tryd.prog) _ 54 5 Tryd.underlying54 Tryd.underlying5 wr.heap.size 0 1 1 [x] rfl (fun i hi => by
    obtain rfl : i = 0 := by omega
    have h := cell_one_new wr (.int .u8 x) 5 0 (.int .u8 x) rfl
    exact h) 9 Tryd.underlying9

end Go.Proofs.YtnlbhmjgeedgpaaDoor
