/-
  No cell of these rows narrows 'for every input' (looked for: loops, veiled, ifaces, maps, wideKeys, modest, calm, conditions, laid).
  DERIVED. THE GIVEN ROWS OF THIS SEAT. 5 by the template 'for every input the law returns true; each argument reads behind the call as it read before'; 0 by the template 'total and deterministic' (their statements: YtngdbhncafnliaaGreatTotals.lean).
  GIVEN WITH THE SEED: the statements are not yours to turn. If you find one false, say at which input.
  Laid BY PROGRAM, IN A SANDBOX (cutbox-rows.mjs): the forced cells as the released guide's own fill.sh prints them over the translation 36856e23ee384efd… (all of the seat's roots in one cut). By AI agents, Wed Nov 11 2026. No macro, syntax, notation, axiom, sorry.
-/
import Derived.Test.YtngdbhncafnliaaGreatChecked
import GoSem.Claim
import GoSem.ClaimJoined
import GoSem.ClaimMapViews
import Derived.JoinedTies
import Derived.KernelRfl
namespace Go.Proofs.YtngdbhncafnliaaGreat
/- THE CELL 'sum', in the pinned program and in every row, IS THE sha256 OF THE DUMP (.gsa) THAT YtngdbhncafnliaaGreatProg.lean LOADS. Nothing in Lean hashes anything: it is a label: what it is worth is what the hold of that sum in a sandbox is worth. -/
noncomputable def Tryz.pinned : Pinned := { name := "ytngdbhncafnliaagreat", sum := "36856e23ee384efd6b982168d2112fade5b07a7e34732d5ddeb7dd6dcca7e864", checked := Tryz.checked }
namespace Rows
def none {H : Type} : Left H := { results := [], args := [] }

/-- 'castellanlaw22.AclChecks': WHATEVER THE INPUT: true; the input reads as it did. -/
def aclChecksSpec : ChangeSpec := { name := "aclChecks", fn := fun _ => fun
  | [d] => { results := [.lit (.bool true)], args := [d] }
  | _ => none }
def aclChecksRow : OpenClaim := { program := "ytngdbhncafnliaagreat", sum := "36856e23ee384efd6b982168d2112fade5b07a7e34732d5ddeb7dd6dcca7e864", func := "castellan/castellanlaw22.AclChecks", spec := "aclChecks", inPlace := ["internal/abi.NoEscape", "internal/bytealg.MakeNoZero", "internal/bytealg.IndexByteString", "internal/bytealg.IndexString"], unfollowed := true, recurses := true, named := ["internal/bytealg.MaxLen"], apart := false }
def AclChecksSaid : Prop := aclChecksRow.holds Tryz.pinned (OpenSpec.ofChange aclChecksSpec)

/-- ITS FALSE NEIGHBOUR: 'it returns false'. Refute it at one input. -/
def aclChecksWrong : ChangeSpec := { name := "aclChecks", fn := fun _ => fun
  | [d] => { results := [.lit (.bool false)], args := [d] }
  | _ => none }
def AclChecksWrongFalsely : Prop := aclChecksRow.holds Tryz.pinned (OpenSpec.ofChange aclChecksWrong)

/-- 'castellanlaw22.AclMays': WHATEVER THE INPUT: true; the input reads as it did. -/
def aclMaysSpec : ChangeSpec := { name := "aclMays", fn := fun _ => fun
  | [d] => { results := [.lit (.bool true)], args := [d] }
  | _ => none }
def aclMaysRow : OpenClaim := { program := "ytngdbhncafnliaagreat", sum := "36856e23ee384efd6b982168d2112fade5b07a7e34732d5ddeb7dd6dcca7e864", func := "castellan/castellanlaw22.AclMays", spec := "aclMays", inPlace := ["internal/abi.NoEscape", "internal/bytealg.MakeNoZero", "internal/bytealg.IndexByteString", "internal/bytealg.IndexString"], unfollowed := true, recurses := true, named := ["internal/bytealg.MaxLen"], apart := false }
def AclMaysSaid : Prop := aclMaysRow.holds Tryz.pinned (OpenSpec.ofChange aclMaysSpec)

/-- ITS FALSE NEIGHBOUR: 'it returns false'. Refute it at one input. -/
def aclMaysWrong : ChangeSpec := { name := "aclMays", fn := fun _ => fun
  | [d] => { results := [.lit (.bool false)], args := [d] }
  | _ => none }
def AclMaysWrongFalsely : Prop := aclMaysRow.holds Tryz.pinned (OpenSpec.ofChange aclMaysWrong)

/-- 'castellanlaw22.AclSeen': WHATEVER THE INPUT: true; the input reads as it did. -/
def aclSeenSpec : ChangeSpec := { name := "aclSeen", fn := fun _ => fun
  | [d1, d2] => { results := [.lit (.bool true)], args := [d1, d2] }
  | _ => none }
def aclSeenRow : OpenClaim := { program := "ytngdbhncafnliaagreat", sum := "36856e23ee384efd6b982168d2112fade5b07a7e34732d5ddeb7dd6dcca7e864", func := "castellan/castellanlaw22.AclSeen", spec := "aclSeen", inPlace := ["internal/abi.NoEscape", "internal/bytealg.MakeNoZero", "internal/bytealg.IndexByteString", "internal/bytealg.IndexString"], unfollowed := true, recurses := true, named := ["internal/bytealg.MaxLen"], apart := false }
def AclSeenSaid : Prop := aclSeenRow.holds Tryz.pinned (OpenSpec.ofChange aclSeenSpec)

/-- ITS FALSE NEIGHBOUR: 'it returns false'. Refute it at one input. -/
def aclSeenWrong : ChangeSpec := { name := "aclSeen", fn := fun _ => fun
  | [d1, d2] => { results := [.lit (.bool false)], args := [d1, d2] }
  | _ => none }
def AclSeenWrongFalsely : Prop := aclSeenRow.holds Tryz.pinned (OpenSpec.ofChange aclSeenWrong)

/-- 'castellanlaw22.AclFirst': WHATEVER THE INPUT: true; the input reads as it did. -/
def aclFirstSpec : ChangeSpec := { name := "aclFirst", fn := fun _ => fun
  | [d1, d2] => { results := [.lit (.bool true)], args := [d1, d2] }
  | _ => none }
def aclFirstRow : OpenClaim := { program := "ytngdbhncafnliaagreat", sum := "36856e23ee384efd6b982168d2112fade5b07a7e34732d5ddeb7dd6dcca7e864", func := "castellan/castellanlaw22.AclFirst", spec := "aclFirst", inPlace := ["internal/abi.NoEscape", "internal/bytealg.MakeNoZero", "internal/bytealg.IndexByteString", "internal/bytealg.IndexString"], unfollowed := true, recurses := true, named := ["internal/bytealg.MaxLen"], apart := false }
def AclFirstSaid : Prop := aclFirstRow.holds Tryz.pinned (OpenSpec.ofChange aclFirstSpec)

/-- ITS FALSE NEIGHBOUR: 'it returns false'. Refute it at one input. -/
def aclFirstWrong : ChangeSpec := { name := "aclFirst", fn := fun _ => fun
  | [d1, d2] => { results := [.lit (.bool false)], args := [d1, d2] }
  | _ => none }
def AclFirstWrongFalsely : Prop := aclFirstRow.holds Tryz.pinned (OpenSpec.ofChange aclFirstWrong)

/-- 'castellanlaw22.AclNil': WHATEVER THE INPUT: true; the input reads as it did. -/
def aclNilSpec : ChangeSpec := { name := "aclNil", fn := fun _ => fun
  | [] => { results := [.lit (.bool true)], args := [] }
  | _ => none }
def aclNilRow : OpenClaim := { program := "ytngdbhncafnliaagreat", sum := "36856e23ee384efd6b982168d2112fade5b07a7e34732d5ddeb7dd6dcca7e864", func := "castellan/castellanlaw22.AclNil", spec := "aclNil", inPlace := ["internal/abi.NoEscape", "internal/bytealg.MakeNoZero", "internal/bytealg.IndexByteString", "internal/bytealg.IndexString"], unfollowed := true, recurses := true, named := ["internal/bytealg.MaxLen"], apart := false }
def AclNilSaid : Prop := aclNilRow.holds Tryz.pinned (OpenSpec.ofChange aclNilSpec)

/-- ITS FALSE NEIGHBOUR: 'it returns false'. Refute it at one input. -/
def aclNilWrong : ChangeSpec := { name := "aclNil", fn := fun _ => fun
  | [] => { results := [.lit (.bool false)], args := [] }
  | _ => none }
def AclNilWrongFalsely : Prop := aclNilRow.holds Tryz.pinned (OpenSpec.ofChange aclNilWrong)

/- THE SECOND FORM. 'bulk': how many values and letters a reading holds, each counted each time it is reached (what is shared counts as often as it is met; a slice's spare places count too). A statement '..UptoSaid' is the law's where the arguments, and the package variables that the reading takes, are together of bulk at most 1048576: NARROWER than '..Said'. Prove '..Said' where nothing that the law and all that it calls make is longer than what came in: it says more and counts as full. Else prove '..UptoSaid'. A law counts once. -/
mutual
def uptoBulk {H : Type} : DataW H → Nat
  | .lit (.string bytes) => bytes.length + 1
  | .lit _ => 1
  | .nil => 1
  | .ptr d => uptoBulk d + 1
  | .slice elems spare => uptoBulkAll elems + uptoBulkAll spare + 1
  | .agg parts => uptoBulkAll parts + 1
  | .iface _ d => uptoBulk d + 1
  | .map entries => uptoBulkEntries entries + 1
  | .held _ => 1
def uptoBulkAll {H : Type} : List (DataW H) → Nat
  | [] => 0
  | d :: r => uptoBulk d + uptoBulkAll r
def uptoBulkEntries {H : Type} : List (Lit × DataW H) → Nat
  | [] => 0
  | x :: r => uptoBulkEntry x + uptoBulkEntries r
def uptoBulkEntry {H : Type} : Lit × DataW H → Nat
  | (.string bytes, d) => bytes.length + uptoBulk d + 1
  | (_, d) => uptoBulk d + 1
 end
def uptoSmall : (H : Type) → List (DataW H) → Bool := fun _ ds => decide (uptoBulkAll ds ≤ 1048576)
def OpenSpec.upto (s : _root_.Go.ChangeSpec) : _root_.Go.OpenSpec := { _root_.Go.OpenSpec.ofChange s with cond := some uptoSmall }

/-- 'castellanlaw22.AclChecks', WHERE WHAT IT READS IS OF BULK AT MOST 1048576: true; the input reads as it did. -/
def aclChecksUptoRow : OpenClaim := { program := "ytngdbhncafnliaagreat", sum := "36856e23ee384efd6b982168d2112fade5b07a7e34732d5ddeb7dd6dcca7e864", func := "castellan/castellanlaw22.AclChecks", spec := "aclChecks", inPlace := ["internal/abi.NoEscape", "internal/bytealg.MakeNoZero", "internal/bytealg.IndexByteString", "internal/bytealg.IndexString"], unfollowed := true, recurses := true, named := ["internal/bytealg.MaxLen"], apart := false, narrowed := true }
def AclChecksUptoSaid : Prop := aclChecksUptoRow.holds Tryz.pinned (OpenSpec.upto aclChecksSpec)

/-- 'castellanlaw22.AclMays', WHERE WHAT IT READS IS OF BULK AT MOST 1048576: true; the input reads as it did. -/
def aclMaysUptoRow : OpenClaim := { program := "ytngdbhncafnliaagreat", sum := "36856e23ee384efd6b982168d2112fade5b07a7e34732d5ddeb7dd6dcca7e864", func := "castellan/castellanlaw22.AclMays", spec := "aclMays", inPlace := ["internal/abi.NoEscape", "internal/bytealg.MakeNoZero", "internal/bytealg.IndexByteString", "internal/bytealg.IndexString"], unfollowed := true, recurses := true, named := ["internal/bytealg.MaxLen"], apart := false, narrowed := true }
def AclMaysUptoSaid : Prop := aclMaysUptoRow.holds Tryz.pinned (OpenSpec.upto aclMaysSpec)

/-- 'castellanlaw22.AclSeen', WHERE WHAT IT READS IS OF BULK AT MOST 1048576: true; the input reads as it did. -/
def aclSeenUptoRow : OpenClaim := { program := "ytngdbhncafnliaagreat", sum := "36856e23ee384efd6b982168d2112fade5b07a7e34732d5ddeb7dd6dcca7e864", func := "castellan/castellanlaw22.AclSeen", spec := "aclSeen", inPlace := ["internal/abi.NoEscape", "internal/bytealg.MakeNoZero", "internal/bytealg.IndexByteString", "internal/bytealg.IndexString"], unfollowed := true, recurses := true, named := ["internal/bytealg.MaxLen"], apart := false, narrowed := true }
def AclSeenUptoSaid : Prop := aclSeenUptoRow.holds Tryz.pinned (OpenSpec.upto aclSeenSpec)

/-- 'castellanlaw22.AclFirst', WHERE WHAT IT READS IS OF BULK AT MOST 1048576: true; the input reads as it did. -/
def aclFirstUptoRow : OpenClaim := { program := "ytngdbhncafnliaagreat", sum := "36856e23ee384efd6b982168d2112fade5b07a7e34732d5ddeb7dd6dcca7e864", func := "castellan/castellanlaw22.AclFirst", spec := "aclFirst", inPlace := ["internal/abi.NoEscape", "internal/bytealg.MakeNoZero", "internal/bytealg.IndexByteString", "internal/bytealg.IndexString"], unfollowed := true, recurses := true, named := ["internal/bytealg.MaxLen"], apart := false, narrowed := true }
def AclFirstUptoSaid : Prop := aclFirstUptoRow.holds Tryz.pinned (OpenSpec.upto aclFirstSpec)

/-- 'castellanlaw22.AclNil', WHERE WHAT IT READS IS OF BULK AT MOST 1048576: true; the input reads as it did. -/
def aclNilUptoRow : OpenClaim := { program := "ytngdbhncafnliaagreat", sum := "36856e23ee384efd6b982168d2112fade5b07a7e34732d5ddeb7dd6dcca7e864", func := "castellan/castellanlaw22.AclNil", spec := "aclNil", inPlace := ["internal/abi.NoEscape", "internal/bytealg.MakeNoZero", "internal/bytealg.IndexByteString", "internal/bytealg.IndexString"], unfollowed := true, recurses := true, named := ["internal/bytealg.MaxLen"], apart := false, narrowed := true }
def AclNilUptoSaid : Prop := aclNilUptoRow.holds Tryz.pinned (OpenSpec.upto aclNilSpec)

end Rows
end Go.Proofs.YtngdbhncafnliaaGreat
