/-
  NARROWER THAN 'FOR EVERY INPUT', by the rows' own cells (each row's printed sentence says how): FiltParses: laid · FiltPrints: loops, laid · FiltBares: loops, laid · FiltBack: loops, laid · FiltAgain: laid · FiltDeep: laid.
  DERIVED. THE GIVEN ROWS OF THIS SEAT. 6 by the template 'for every input the law returns true; each argument reads behind the call as it read before'; 0 by the template 'total and deterministic' (their statements: YtnlbhmjgeedgpaaDoorTotals.lean).
  GIVEN WITH THE SEED: the statements are not yours to turn. If you find one false, say at which input.
  Laid BY PROGRAM, IN A SANDBOX (cutbox-rows.mjs): the forced cells as the released guide's own fill.sh prints them over the translation f244c003b2e35628… (all of the seat's roots in one cut). By AI agents, Wed Nov 11 2026. No macro, syntax, notation, axiom, sorry.
-/
import Derived.Test.YtnlbhmjgeedgpaaDoorChecked
import GoSem.PinnedTables
import GoSem.Claim
import GoSem.ClaimJoined
import GoSem.ClaimMapViews
import Derived.JoinedTies
import Derived.KernelRfl
namespace Go.Proofs.YtnlbhmjgeedgpaaDoor
/- THE CELL 'sum', in the pinned program and in every row, IS THE sha256 OF THE DUMP (.gsa) THAT YtnlbhmjgeedgpaaDoorProg.lean LOADS. Nothing in Lean hashes anything: it is a label: what it is worth is what the hold of that sum in a sandbox is worth. -/
noncomputable def Tryd.pinned : Pinned := { name := "ytnlbhmjgeedgpaadoor", sum := "f244c003b2e35628cf4728d4370271061f4a37a615466df5e4b1de74b514857c", checked := Tryd.checked }
namespace Rows
def none {H : Type} : Left H := { results := [], args := [] }

/- WHAT THE LISTED PACKAGE-LEVEL VARIABLES READ AS WHEN THE CALL BEGINS. Each datum BY PROGRAM (the guide's laid-datum.mjs) off the statement by which the dump's own 'gosem.cut.vars' lays the variable. In a bare row this is a premise. The card (YtnlbhmjgeedgpaaDoorCards.lean) ties it to the program's text. -/
def laid_unicode_utf8_acceptRanges {H : Type} : DataW H := .agg [.agg [.lit (.int .u8 128), .lit (.int .u8 191)], .agg [.lit (.int .u8 160), .lit (.int .u8 191)], .agg [.lit (.int .u8 128), .lit (.int .u8 159)], .agg [.lit (.int .u8 144), .lit (.int .u8 191)], .agg [.lit (.int .u8 128), .lit (.int .u8 143)], .agg [.lit (.int .u8 0), .lit (.int .u8 0)], .agg [.lit (.int .u8 0), .lit (.int .u8 0)], .agg [.lit (.int .u8 0), .lit (.int .u8 0)], .agg [.lit (.int .u8 0), .lit (.int .u8 0)], .agg [.lit (.int .u8 0), .lit (.int .u8 0)], .agg [.lit (.int .u8 0), .lit (.int .u8 0)], .agg [.lit (.int .u8 0), .lit (.int .u8 0)], .agg [.lit (.int .u8 0), .lit (.int .u8 0)], .agg [.lit (.int .u8 0), .lit (.int .u8 0)], .agg [.lit (.int .u8 0), .lit (.int .u8 0)], .agg [.lit (.int .u8 0), .lit (.int .u8 0)]]
/-- One of Go's own tables, pinned by name: the form's constant. -/
def laid_unicode_utf8_first : DataW Unit := Go.Pinned.utf8First

/-- 'castellanlaw10.FiltParses': WHATEVER THE INPUT: true; the input reads as it did. -/
def filtParsesSpec : ChangeSpec := { name := "filtParses", fn := fun _ => fun
  | [d] => { results := [.lit (.bool true)], args := [d] }
  | _ => none }
def filtParsesRow : OpenClaim := { program := "ytnlbhmjgeedgpaadoor", sum := "f244c003b2e35628cf4728d4370271061f4a37a615466df5e4b1de74b514857c", func := "castellan/castellanlaw10.FiltParses", spec := "filtParses", inPlace := ["internal/bytealg.IndexByteString", "internal/bytealg.IndexString", "internal/bytealg.CountString"], recurses := true, named := ["internal/bytealg.MaxLen", "unicode/utf8.first", "unicode/utf8.acceptRanges"], plainKeys := false, apart := false, laid := [("unicode/utf8.acceptRanges", laid_unicode_utf8_acceptRanges), ("unicode/utf8.first", laid_unicode_utf8_first)] }
def FiltParsesSaid : Prop := filtParsesRow.holds Tryd.pinned (OpenSpec.ofChange filtParsesSpec)

/-- ITS FALSE NEIGHBOUR: 'it returns false'. Refute it at one input. -/
def filtParsesWrong : ChangeSpec := { name := "filtParses", fn := fun _ => fun
  | [d] => { results := [.lit (.bool false)], args := [d] }
  | _ => none }
def FiltParsesWrongFalsely : Prop := filtParsesRow.holds Tryd.pinned (OpenSpec.ofChange filtParsesWrong)

/-- 'castellanlaw10.FiltPrints': WHATEVER THE INPUT: true; the input reads as it did. -/
def filtPrintsSpec : ChangeSpec := { name := "filtPrints", fn := fun _ => fun
  | [d] => { results := [.lit (.bool true)], args := [d] }
  | _ => none }
def filtPrintsRow : OpenClaim := { program := "ytnlbhmjgeedgpaadoor", sum := "f244c003b2e35628cf4728d4370271061f4a37a615466df5e4b1de74b514857c", func := "castellan/castellanlaw10.FiltPrints", spec := "filtPrints", inPlace := ["internal/bytealg.IndexByteString", "internal/bytealg.IndexString", "internal/bytealg.CountString"], recurses := true, named := ["internal/bytealg.MaxLen", "unicode/utf8.first", "unicode/utf8.acceptRanges"], loops := true, plainKeys := false, apart := false, laid := [("unicode/utf8.acceptRanges", laid_unicode_utf8_acceptRanges), ("unicode/utf8.first", laid_unicode_utf8_first)] }
def FiltPrintsSaid : Prop := filtPrintsRow.holds Tryd.pinned (OpenSpec.ofChange filtPrintsSpec)

/-- ITS FALSE NEIGHBOUR: 'it returns false'. Refute it at one input. -/
def filtPrintsWrong : ChangeSpec := { name := "filtPrints", fn := fun _ => fun
  | [d] => { results := [.lit (.bool false)], args := [d] }
  | _ => none }
def FiltPrintsWrongFalsely : Prop := filtPrintsRow.holds Tryd.pinned (OpenSpec.ofChange filtPrintsWrong)

/-- 'castellanlaw10.FiltBares': WHATEVER THE INPUT: true; the input reads as it did. -/
def filtBaresSpec : ChangeSpec := { name := "filtBares", fn := fun _ => fun
  | [d] => { results := [.lit (.bool true)], args := [d] }
  | _ => none }
def filtBaresRow : OpenClaim := { program := "ytnlbhmjgeedgpaadoor", sum := "f244c003b2e35628cf4728d4370271061f4a37a615466df5e4b1de74b514857c", func := "castellan/castellanlaw10.FiltBares", spec := "filtBares", inPlace := ["internal/bytealg.IndexByteString", "internal/bytealg.IndexString", "internal/bytealg.CountString"], unfollowed := true, recurses := true, named := ["internal/bytealg.MaxLen", "unicode/utf8.first", "unicode/utf8.acceptRanges"], loops := true, plainKeys := false, apart := false, laid := [("unicode/utf8.acceptRanges", laid_unicode_utf8_acceptRanges), ("unicode/utf8.first", laid_unicode_utf8_first)] }
def FiltBaresSaid : Prop := filtBaresRow.holds Tryd.pinned (OpenSpec.ofChange filtBaresSpec)

/-- ITS FALSE NEIGHBOUR: 'it returns false'. Refute it at one input. -/
def filtBaresWrong : ChangeSpec := { name := "filtBares", fn := fun _ => fun
  | [d] => { results := [.lit (.bool false)], args := [d] }
  | _ => none }
def FiltBaresWrongFalsely : Prop := filtBaresRow.holds Tryd.pinned (OpenSpec.ofChange filtBaresWrong)

/-- 'castellanlaw10.FiltBack': WHATEVER THE INPUT: true; the input reads as it did. -/
def filtBackSpec : ChangeSpec := { name := "filtBack", fn := fun _ => fun
  | [d] => { results := [.lit (.bool true)], args := [d] }
  | _ => none }
def filtBackRow : OpenClaim := { program := "ytnlbhmjgeedgpaadoor", sum := "f244c003b2e35628cf4728d4370271061f4a37a615466df5e4b1de74b514857c", func := "castellan/castellanlaw10.FiltBack", spec := "filtBack", inPlace := ["internal/bytealg.IndexByteString", "internal/bytealg.IndexString", "internal/bytealg.CountString"], recurses := true, named := ["internal/bytealg.MaxLen", "unicode/utf8.first", "unicode/utf8.acceptRanges"], loops := true, plainKeys := false, apart := false, laid := [("unicode/utf8.acceptRanges", laid_unicode_utf8_acceptRanges), ("unicode/utf8.first", laid_unicode_utf8_first)] }
def FiltBackSaid : Prop := filtBackRow.holds Tryd.pinned (OpenSpec.ofChange filtBackSpec)

/-- ITS FALSE NEIGHBOUR: 'it returns false'. Refute it at one input. -/
def filtBackWrong : ChangeSpec := { name := "filtBack", fn := fun _ => fun
  | [d] => { results := [.lit (.bool false)], args := [d] }
  | _ => none }
def FiltBackWrongFalsely : Prop := filtBackRow.holds Tryd.pinned (OpenSpec.ofChange filtBackWrong)

/-- 'castellanlaw10.FiltAgain': WHATEVER THE INPUT: true; the input reads as it did. -/
def filtAgainSpec : ChangeSpec := { name := "filtAgain", fn := fun _ => fun
  | [d1, d2] => { results := [.lit (.bool true)], args := [d1, d2] }
  | _ => none }
def filtAgainRow : OpenClaim := { program := "ytnlbhmjgeedgpaadoor", sum := "f244c003b2e35628cf4728d4370271061f4a37a615466df5e4b1de74b514857c", func := "castellan/castellanlaw10.FiltAgain", spec := "filtAgain", inPlace := ["internal/bytealg.IndexByteString", "internal/bytealg.IndexString", "internal/bytealg.CountString"], recurses := true, named := ["internal/bytealg.MaxLen", "unicode/utf8.first", "unicode/utf8.acceptRanges"], plainKeys := false, apart := false, laid := [("unicode/utf8.acceptRanges", laid_unicode_utf8_acceptRanges), ("unicode/utf8.first", laid_unicode_utf8_first)] }
def FiltAgainSaid : Prop := filtAgainRow.holds Tryd.pinned (OpenSpec.ofChange filtAgainSpec)

/-- ITS FALSE NEIGHBOUR: 'it returns false'. Refute it at one input. -/
def filtAgainWrong : ChangeSpec := { name := "filtAgain", fn := fun _ => fun
  | [d1, d2] => { results := [.lit (.bool false)], args := [d1, d2] }
  | _ => none }
def FiltAgainWrongFalsely : Prop := filtAgainRow.holds Tryd.pinned (OpenSpec.ofChange filtAgainWrong)

/-- 'castellanlaw10.FiltDeep': WHATEVER THE INPUT: true; the input reads as it did. -/
def filtDeepSpec : ChangeSpec := { name := "filtDeep", fn := fun _ => fun
  | [d1, d2] => { results := [.lit (.bool true)], args := [d1, d2] }
  | _ => none }
def filtDeepRow : OpenClaim := { program := "ytnlbhmjgeedgpaadoor", sum := "f244c003b2e35628cf4728d4370271061f4a37a615466df5e4b1de74b514857c", func := "castellan/castellanlaw10.FiltDeep", spec := "filtDeep", inPlace := ["internal/bytealg.IndexByteString", "internal/bytealg.IndexString", "internal/bytealg.CountString"], recurses := true, named := ["internal/bytealg.MaxLen", "unicode/utf8.first", "unicode/utf8.acceptRanges"], plainKeys := false, apart := false, laid := [("unicode/utf8.acceptRanges", laid_unicode_utf8_acceptRanges), ("unicode/utf8.first", laid_unicode_utf8_first)] }
def FiltDeepSaid : Prop := filtDeepRow.holds Tryd.pinned (OpenSpec.ofChange filtDeepSpec)

/-- ITS FALSE NEIGHBOUR: 'it returns false'. Refute it at one input. -/
def filtDeepWrong : ChangeSpec := { name := "filtDeep", fn := fun _ => fun
  | [d1, d2] => { results := [.lit (.bool false)], args := [d1, d2] }
  | _ => none }
def FiltDeepWrongFalsely : Prop := filtDeepRow.holds Tryd.pinned (OpenSpec.ofChange filtDeepWrong)

/- THE SECOND FORM. 'bulk': how many values and letters a reading holds, each counted each time it is reached (what is shared counts as often as it is met; a slice's spare places count too). A statement '..UptoSaid' is the law's where the arguments, and the package variables that the reading takes, are together of bulk at most 1048576: NARROWER than '..Said'. Prove '..Said' where nothing that the law and all that it calls make is longer than what came in: it says more and counts as full. Else prove '..UptoSaid'. A law counts once. -/
mutual
def uptoBulk {H : Type} : DataW H → Nat
  | .lit (.string bytes) => bytes.length + 1
  | .lit _ => 1
  | .nil => 1
  | .ptr d => uptoBulk d + 1
  | .slice elems spare => uptoBulkAll elems + uptoBulkAll spare + 1
  | .agg parts => uptoBulkAll parts + 1
  | .iface _ d => uptoBulk d + 1
  | .map entries => uptoBulkEntries entries + 1
  | .held _ => 1
def uptoBulkAll {H : Type} : List (DataW H) → Nat
  | [] => 0
  | d :: r => uptoBulk d + uptoBulkAll r
def uptoBulkEntries {H : Type} : List (Lit × DataW H) → Nat
  | [] => 0
  | x :: r => uptoBulkEntry x + uptoBulkEntries r
def uptoBulkEntry {H : Type} : Lit × DataW H → Nat
  | (.string bytes, d) => bytes.length + uptoBulk d + 1
  | (_, d) => uptoBulk d + 1
 end
def uptoSmall : (H : Type) → List (DataW H) → Bool := fun _ ds => decide (uptoBulkAll ds ≤ 1048576)
def OpenSpec.upto (s : _root_.Go.ChangeSpec) : _root_.Go.OpenSpec := { _root_.Go.OpenSpec.ofChange s with cond := some uptoSmall }

/-- 'castellanlaw10.FiltParses', WHERE WHAT IT READS IS OF BULK AT MOST 1048576: true; the input reads as it did. -/
def filtParsesUptoRow : OpenClaim := { program := "ytnlbhmjgeedgpaadoor", sum := "f244c003b2e35628cf4728d4370271061f4a37a615466df5e4b1de74b514857c", func := "castellan/castellanlaw10.FiltParses", spec := "filtParses", inPlace := ["internal/bytealg.IndexByteString", "internal/bytealg.IndexString", "internal/bytealg.CountString"], recurses := true, named := ["internal/bytealg.MaxLen", "unicode/utf8.first", "unicode/utf8.acceptRanges"], plainKeys := false, apart := false, laid := [("unicode/utf8.acceptRanges", laid_unicode_utf8_acceptRanges), ("unicode/utf8.first", laid_unicode_utf8_first)], narrowed := true }
def FiltParsesUptoSaid : Prop := filtParsesUptoRow.holds Tryd.pinned (OpenSpec.upto filtParsesSpec)

/-- 'castellanlaw10.FiltPrints', WHERE WHAT IT READS IS OF BULK AT MOST 1048576: true; the input reads as it did. -/
def filtPrintsUptoRow : OpenClaim := { program := "ytnlbhmjgeedgpaadoor", sum := "f244c003b2e35628cf4728d4370271061f4a37a615466df5e4b1de74b514857c", func := "castellan/castellanlaw10.FiltPrints", spec := "filtPrints", inPlace := ["internal/bytealg.IndexByteString", "internal/bytealg.IndexString", "internal/bytealg.CountString"], recurses := true, named := ["internal/bytealg.MaxLen", "unicode/utf8.first", "unicode/utf8.acceptRanges"], loops := true, plainKeys := false, apart := false, laid := [("unicode/utf8.acceptRanges", laid_unicode_utf8_acceptRanges), ("unicode/utf8.first", laid_unicode_utf8_first)], narrowed := true }
def FiltPrintsUptoSaid : Prop := filtPrintsUptoRow.holds Tryd.pinned (OpenSpec.upto filtPrintsSpec)

/-- 'castellanlaw10.FiltBares', WHERE WHAT IT READS IS OF BULK AT MOST 1048576: true; the input reads as it did. -/
def filtBaresUptoRow : OpenClaim := { program := "ytnlbhmjgeedgpaadoor", sum := "f244c003b2e35628cf4728d4370271061f4a37a615466df5e4b1de74b514857c", func := "castellan/castellanlaw10.FiltBares", spec := "filtBares", inPlace := ["internal/bytealg.IndexByteString", "internal/bytealg.IndexString", "internal/bytealg.CountString"], unfollowed := true, recurses := true, named := ["internal/bytealg.MaxLen", "unicode/utf8.first", "unicode/utf8.acceptRanges"], loops := true, plainKeys := false, apart := false, laid := [("unicode/utf8.acceptRanges", laid_unicode_utf8_acceptRanges), ("unicode/utf8.first", laid_unicode_utf8_first)], narrowed := true }
def FiltBaresUptoSaid : Prop := filtBaresUptoRow.holds Tryd.pinned (OpenSpec.upto filtBaresSpec)

/-- 'castellanlaw10.FiltBack', WHERE WHAT IT READS IS OF BULK AT MOST 1048576: true; the input reads as it did. -/
def filtBackUptoRow : OpenClaim := { program := "ytnlbhmjgeedgpaadoor", sum := "f244c003b2e35628cf4728d4370271061f4a37a615466df5e4b1de74b514857c", func := "castellan/castellanlaw10.FiltBack", spec := "filtBack", inPlace := ["internal/bytealg.IndexByteString", "internal/bytealg.IndexString", "internal/bytealg.CountString"], recurses := true, named := ["internal/bytealg.MaxLen", "unicode/utf8.first", "unicode/utf8.acceptRanges"], loops := true, plainKeys := false, apart := false, laid := [("unicode/utf8.acceptRanges", laid_unicode_utf8_acceptRanges), ("unicode/utf8.first", laid_unicode_utf8_first)], narrowed := true }
def FiltBackUptoSaid : Prop := filtBackUptoRow.holds Tryd.pinned (OpenSpec.upto filtBackSpec)

/-- 'castellanlaw10.FiltAgain', WHERE WHAT IT READS IS OF BULK AT MOST 1048576: true; the input reads as it did. -/
def filtAgainUptoRow : OpenClaim := { program := "ytnlbhmjgeedgpaadoor", sum := "f244c003b2e35628cf4728d4370271061f4a37a615466df5e4b1de74b514857c", func := "castellan/castellanlaw10.FiltAgain", spec := "filtAgain", inPlace := ["internal/bytealg.IndexByteString", "internal/bytealg.IndexString", "internal/bytealg.CountString"], recurses := true, named := ["internal/bytealg.MaxLen", "unicode/utf8.first", "unicode/utf8.acceptRanges"], plainKeys := false, apart := false, laid := [("unicode/utf8.acceptRanges", laid_unicode_utf8_acceptRanges), ("unicode/utf8.first", laid_unicode_utf8_first)], narrowed := true }
def FiltAgainUptoSaid : Prop := filtAgainUptoRow.holds Tryd.pinned (OpenSpec.upto filtAgainSpec)

/-- 'castellanlaw10.FiltDeep', WHERE WHAT IT READS IS OF BULK AT MOST 1048576: true; the input reads as it did. -/
def filtDeepUptoRow : OpenClaim := { program := "ytnlbhmjgeedgpaadoor", sum := "f244c003b2e35628cf4728d4370271061f4a37a615466df5e4b1de74b514857c", func := "castellan/castellanlaw10.FiltDeep", spec := "filtDeep", inPlace := ["internal/bytealg.IndexByteString", "internal/bytealg.IndexString", "internal/bytealg.CountString"], recurses := true, named := ["internal/bytealg.MaxLen", "unicode/utf8.first", "unicode/utf8.acceptRanges"], plainKeys := false, apart := false, laid := [("unicode/utf8.acceptRanges", laid_unicode_utf8_acceptRanges), ("unicode/utf8.first", laid_unicode_utf8_first)], narrowed := true }
def FiltDeepUptoSaid : Prop := filtDeepUptoRow.holds Tryd.pinned (OpenSpec.upto filtDeepSpec)

end Rows
end Go.Proofs.YtnlbhmjgeedgpaaDoor
