/-
  What the calls octet.fits and octet.Put come to, at every input: contracts, walked over the program's text.
-/
import Derived.Test.YtfogcgegllhmmaaGreatDoorProg
import Derived.Test.YtfogcgegllhmmaaGreatDoorMath
import Derived.WalkKit
import Derived.Lib.Hide
import Derived.WalkSpells
import Derived.WalkLawsBesides
namespace Go.Proofs.YtfogcgegllhmmaaGreatDoor
open Go.RowKit

theorem Tryz.info5 : (Tryz.prog.info? 5).map (fun i => (i.zero, i.size, i.bytes)) = some (some (.int .u8 0), 1, 1) := by kernel_rfl

theorem conv_one (wr : World) (x : Int) : (convert 65 9 (.slice (some ⟨wr.heap.size, 0, none⟩) 1 1)).run Tryz.prog (wr.alloc (.cells #[.int .u8 x] 5)) =
    .ok (.string (strOfNums [x])) (wr.alloc (.cells #[.int .u8 x] 5)) :=
  run_convert_bytes_arg (P := Tryz.prog) _ 65 5 Tryz.underlying65 Tryz.underlying5 wr.heap.size 0 1 1 [x] rfl (fun i hi => by
    obtain rfl : i = 0 := by omega
    have h := cell_one_new wr (.int .u8 x) 5 0 (.int .u8 x) rfl
    exact h) 9 Tryz.underlying9

end Go.Proofs.YtfogcgegllhmmaaGreatDoor
