/-
  What the calls octet.fits and octet.Put come to, at every input: contracts, walked over the program's text.
-/
import Derived.Test.YthkhicpkkmhfbaaProg
import Derived.Test.YthkhicpkkmhfbaaMath
import Derived.WalkKit
import Derived.Lib.Hide
import Derived.WalkSpells
import Derived.WalkLawsBesides
namespace Go.Proofs.Ythkhicpkkmhfbaa
open Go.RowKit

theorem Try.info5 : (Try.prog.info? 5).map (fun i => (i.zero, i.size, i.bytes)) = some (some (.int .u8 0), 1, 1) := by kernel_rfl

theorem conv_one (wr : World) (x : Int) : (convert 77 9 (.slice (some ⟨wr.heap.size, 0, none⟩) 1 1)).run Try.prog (wr.alloc (.cells #[.int .u8 x] 5)) =
    .ok (.string (strOfNums [x])) (wr.alloc (.cells #[.int .u8 x] 5)) :=
  run_convert_bytes_arg (P := Try.prog) _ 77 5 Try.underlying77 Try.underlying5 wr.heap.size 0 1 1 [x] rfl (fun i hi => by
    obtain rfl : i = 0 := by omega
    have h := cell_one_new wr (.int .u8 x) 5 0 (.int .u8 x) rfl
    exact h) 9 Try.underlying9

end Go.Proofs.Ythkhicpkkmhfbaa
