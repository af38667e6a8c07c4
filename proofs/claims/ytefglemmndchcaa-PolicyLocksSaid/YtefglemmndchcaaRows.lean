/-
  No cell of these rows narrows 'for every input' (looked for: loops, veiled, ifaces, maps, wideKeys, modest, calm, conditions, laid).
  DERIVED. THE GIVEN ROWS OF THIS SEAT. 2 by the template 'for every input the law returns true; each argument reads behind the call as it read before'; 0 by the template 'total and deterministic' (their statements: YtefglemmndchcaaTotals.lean).
  GIVEN WITH THE SEED: the statements are not yours to turn. If you find one false, say at which input.
  Laid BY PROGRAM, IN A SANDBOX (cutbox-rows.mjs): the forced cells as the released guide's own fill.sh prints them over the translation bf134fcf93c51dbf… (all of the seat's roots in one cut). By AI agents, Wed Nov 11 2026. No macro, syntax, notation, axiom, sorry.
-/
import Derived.Test.YtefglemmndchcaaChecked
import GoSem.Claim
import GoSem.ClaimJoined
import GoSem.ClaimMapViews
import Derived.JoinedTies
import Derived.KernelRfl
namespace Go.Proofs.Ytefglemmndchcaa
/- THE CELL 'sum', in the pinned program and in every row, IS THE sha256 OF THE DUMP (.gsa) THAT YtefglemmndchcaaProg.lean LOADS. Nothing in Lean hashes anything: it is a label: what it is worth is what the hold of that sum in a sandbox is worth. -/
noncomputable def Try.pinned : Pinned := { name := "ytefglemmndchcaa", sum := "bf134fcf93c51dbf68840eb17d3f6425139cc9432bc976be37b8f76b89dee2e7", checked := Try.checked }
namespace Rows
def none {H : Type} : Left H := { results := [], args := [] }

/-- 'castellanlaw23.PolicyTries': WHATEVER THE INPUT: true; the input reads as it did. -/
def policyTriesSpec : ChangeSpec := { name := "policyTries", fn := fun _ => fun
  | [d1, d2, d3] => { results := [.lit (.bool true)], args := [d1, d2, d3] }
  | _ => none }
def policyTriesRow : OpenClaim := { program := "ytefglemmndchcaa", sum := "bf134fcf93c51dbf68840eb17d3f6425139cc9432bc976be37b8f76b89dee2e7", func := "castellan/castellanlaw23.PolicyTries", spec := "policyTries", inPlace := ["slices.overlaps[int64]"], unfollowed := true, recurses := true, apart := false }
def PolicyTriesSaid : Prop := policyTriesRow.holds Try.pinned (OpenSpec.ofChange policyTriesSpec)

/-- ITS FALSE NEIGHBOUR: 'it returns false'. Refute it at one input. -/
def policyTriesWrong : ChangeSpec := { name := "policyTries", fn := fun _ => fun
  | [d1, d2, d3] => { results := [.lit (.bool false)], args := [d1, d2, d3] }
  | _ => none }
def PolicyTriesWrongFalsely : Prop := policyTriesRow.holds Try.pinned (OpenSpec.ofChange policyTriesWrong)

/-- 'castellanlaw23.PolicyLocks': WHATEVER THE INPUT: true; the input reads as it did. -/
def policyLocksSpec : ChangeSpec := { name := "policyLocks", fn := fun _ => fun
  | [d1, d2, d3] => { results := [.lit (.bool true)], args := [d1, d2, d3] }
  | _ => none }
def policyLocksRow : OpenClaim := { program := "ytefglemmndchcaa", sum := "bf134fcf93c51dbf68840eb17d3f6425139cc9432bc976be37b8f76b89dee2e7", func := "castellan/castellanlaw23.PolicyLocks", spec := "policyLocks", inPlace := ["slices.overlaps[int64]"], unfollowed := true, recurses := true, apart := false }
def PolicyLocksSaid : Prop := policyLocksRow.holds Try.pinned (OpenSpec.ofChange policyLocksSpec)

/-- ITS FALSE NEIGHBOUR: 'it returns false'. Refute it at one input. -/
def policyLocksWrong : ChangeSpec := { name := "policyLocks", fn := fun _ => fun
  | [d1, d2, d3] => { results := [.lit (.bool false)], args := [d1, d2, d3] }
  | _ => none }
def PolicyLocksWrongFalsely : Prop := policyLocksRow.holds Try.pinned (OpenSpec.ofChange policyLocksWrong)

/- THE SECOND FORM. 'bulk': how many values and letters a reading holds, each counted each time it is reached (what is shared counts as often as it is met; a slice's spare places count too). A statement '..UptoSaid' is the law's where the arguments, and the package variables that the reading takes, are together of bulk at most 1048576: NARROWER than '..Said'. Prove '..Said' where nothing that the law and all that it calls make is longer than what came in: it says more and counts as full. Else prove '..UptoSaid'. A law counts once. -/
mutual
def uptoBulk {H : Type} : DataW H → Nat
  | .lit (.string bytes) => bytes.length + 1
  | .lit _ => 1
  | .nil => 1
  | .ptr d => uptoBulk d + 1
  | .slice elems spare => uptoBulkAll elems + uptoBulkAll spare + 1
  | .agg parts => uptoBulkAll parts + 1
  | .iface _ d => uptoBulk d + 1
  | .map entries => uptoBulkEntries entries + 1
  | .held _ => 1
def uptoBulkAll {H : Type} : List (DataW H) → Nat
  | [] => 0
  | d :: r => uptoBulk d + uptoBulkAll r
def uptoBulkEntries {H : Type} : List (Lit × DataW H) → Nat
  | [] => 0
  | x :: r => uptoBulkEntry x + uptoBulkEntries r
def uptoBulkEntry {H : Type} : Lit × DataW H → Nat
  | (.string bytes, d) => bytes.length + uptoBulk d + 1
  | (_, d) => uptoBulk d + 1
 end
def uptoSmall : (H : Type) → List (DataW H) → Bool := fun _ ds => decide (uptoBulkAll ds ≤ 1048576)
def OpenSpec.upto (s : _root_.Go.ChangeSpec) : _root_.Go.OpenSpec := { _root_.Go.OpenSpec.ofChange s with cond := some uptoSmall }

/-- 'castellanlaw23.PolicyTries', WHERE WHAT IT READS IS OF BULK AT MOST 1048576: true; the input reads as it did. -/
def policyTriesUptoRow : OpenClaim := { program := "ytefglemmndchcaa", sum := "bf134fcf93c51dbf68840eb17d3f6425139cc9432bc976be37b8f76b89dee2e7", func := "castellan/castellanlaw23.PolicyTries", spec := "policyTries", inPlace := ["slices.overlaps[int64]"], unfollowed := true, recurses := true, apart := false, narrowed := true }
def PolicyTriesUptoSaid : Prop := policyTriesUptoRow.holds Try.pinned (OpenSpec.upto policyTriesSpec)

/-- 'castellanlaw23.PolicyLocks', WHERE WHAT IT READS IS OF BULK AT MOST 1048576: true; the input reads as it did. -/
def policyLocksUptoRow : OpenClaim := { program := "ytefglemmndchcaa", sum := "bf134fcf93c51dbf68840eb17d3f6425139cc9432bc976be37b8f76b89dee2e7", func := "castellan/castellanlaw23.PolicyLocks", spec := "policyLocks", inPlace := ["slices.overlaps[int64]"], unfollowed := true, recurses := true, apart := false, narrowed := true }
def PolicyLocksUptoSaid : Prop := policyLocksUptoRow.holds Try.pinned (OpenSpec.upto policyLocksSpec)

end Rows
end Go.Proofs.Ytefglemmndchcaa
