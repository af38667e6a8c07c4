/-
  No cell of these rows narrows 'for every input' (looked for: loops, veiled, ifaces, maps, wideKeys, modest, calm, conditions, laid).
  DERIVED. THE GIVEN ROWS OF THIS SEAT. 6 by the template 'for every input the law returns true; each argument reads behind the call as it read before'; 0 by the template 'total and deterministic' (their statements: YtkinemlgifeimaaTotals.lean).
  GIVEN WITH THE SEED: the statements are not yours to turn. If you find one false, say at which input.
  Laid BY PROGRAM, IN A SANDBOX (cutbox-rows.mjs): the forced cells as the released guide's own fill.sh prints them over the translation d98f1a7f6bc855b1… (all of the seat's roots in one cut). By AI agents, Wed Nov 11 2026. No macro, syntax, notation, axiom, sorry.
-/
import Derived.Test.YtkinemlgifeimaaChecked
import GoSem.Claim
import GoSem.ClaimJoined
import GoSem.ClaimMapViews
import Derived.JoinedTies
import Derived.KernelRfl
namespace Go.Proofs.Ytkinemlgifeimaa
/- THE CELL 'sum', in the pinned program and in every row, IS THE sha256 OF THE DUMP (.gsa) THAT YtkinemlgifeimaaProg.lean LOADS. Nothing in Lean hashes anything: it is a label: what it is worth is what the hold of that sum in a sandbox is worth. -/
noncomputable def Try.pinned : Pinned := { name := "ytkinemlgifeimaa", sum := "d98f1a7f6bc855b14ff3afbc74a63deec6a87d7a73665704c43db89dcc0355f9", checked := Try.checked }
namespace Rows
def none {H : Type} : Left H := { results := [], args := [] }

/-- 'castellanlaw13.SchemaChecks': WHATEVER THE INPUT: true; the input reads as it did. -/
def schemaChecksSpec : ChangeSpec := { name := "schemaChecks", fn := fun _ => fun
  | [d] => { results := [.lit (.bool true)], args := [d] }
  | _ => none }
def schemaChecksRow : OpenClaim := { program := "ytkinemlgifeimaa", sum := "d98f1a7f6bc855b14ff3afbc74a63deec6a87d7a73665704c43db89dcc0355f9", func := "castellan/castellanlaw13.SchemaChecks", spec := "schemaChecks", unfollowed := true, recurses := true, apart := false }
def SchemaChecksSaid : Prop := schemaChecksRow.holds Try.pinned (OpenSpec.ofChange schemaChecksSpec)

/-- ITS FALSE NEIGHBOUR: 'it returns false'. Refute it at one input. -/
def schemaChecksWrong : ChangeSpec := { name := "schemaChecks", fn := fun _ => fun
  | [d] => { results := [.lit (.bool false)], args := [d] }
  | _ => none }
def SchemaChecksWrongFalsely : Prop := schemaChecksRow.holds Try.pinned (OpenSpec.ofChange schemaChecksWrong)

/-- 'castellanlaw13.SchemaFinds': WHATEVER THE INPUT: true; the input reads as it did. -/
def schemaFindsSpec : ChangeSpec := { name := "schemaFinds", fn := fun _ => fun
  | [d1, d2] => { results := [.lit (.bool true)], args := [d1, d2] }
  | _ => none }
def schemaFindsRow : OpenClaim := { program := "ytkinemlgifeimaa", sum := "d98f1a7f6bc855b14ff3afbc74a63deec6a87d7a73665704c43db89dcc0355f9", func := "castellan/castellanlaw13.SchemaFinds", spec := "schemaFinds", unfollowed := true, recurses := true, apart := false }
def SchemaFindsSaid : Prop := schemaFindsRow.holds Try.pinned (OpenSpec.ofChange schemaFindsSpec)

/-- ITS FALSE NEIGHBOUR: 'it returns false'. Refute it at one input. -/
def schemaFindsWrong : ChangeSpec := { name := "schemaFinds", fn := fun _ => fun
  | [d1, d2] => { results := [.lit (.bool false)], args := [d1, d2] }
  | _ => none }
def SchemaFindsWrongFalsely : Prop := schemaFindsRow.holds Try.pinned (OpenSpec.ofChange schemaFindsWrong)

/-- 'castellanlaw13.SchemaWants': WHATEVER THE INPUT: true; the input reads as it did. -/
def schemaWantsSpec : ChangeSpec := { name := "schemaWants", fn := fun _ => fun
  | [d1, d2] => { results := [.lit (.bool true)], args := [d1, d2] }
  | _ => none }
def schemaWantsRow : OpenClaim := { program := "ytkinemlgifeimaa", sum := "d98f1a7f6bc855b14ff3afbc74a63deec6a87d7a73665704c43db89dcc0355f9", func := "castellan/castellanlaw13.SchemaWants", spec := "schemaWants", unfollowed := true, recurses := true, apart := false }
def SchemaWantsSaid : Prop := schemaWantsRow.holds Try.pinned (OpenSpec.ofChange schemaWantsSpec)

/-- ITS FALSE NEIGHBOUR: 'it returns false'. Refute it at one input. -/
def schemaWantsWrong : ChangeSpec := { name := "schemaWants", fn := fun _ => fun
  | [d1, d2] => { results := [.lit (.bool false)], args := [d1, d2] }
  | _ => none }
def SchemaWantsWrongFalsely : Prop := schemaWantsRow.holds Try.pinned (OpenSpec.ofChange schemaWantsWrong)

/-- 'castellanlaw13.SchemaCore': WHATEVER THE INPUT: true; the input reads as it did. -/
def schemaCoreSpec : ChangeSpec := { name := "schemaCore", fn := fun _ => fun
  | [] => { results := [.lit (.bool true)], args := [] }
  | _ => none }
def schemaCoreRow : OpenClaim := { program := "ytkinemlgifeimaa", sum := "d98f1a7f6bc855b14ff3afbc74a63deec6a87d7a73665704c43db89dcc0355f9", func := "castellan/castellanlaw13.SchemaCore", spec := "schemaCore", unfollowed := true, recurses := true, apart := false }
def SchemaCoreSaid : Prop := schemaCoreRow.holds Try.pinned (OpenSpec.ofChange schemaCoreSpec)

/-- ITS FALSE NEIGHBOUR: 'it returns false'. Refute it at one input. -/
def schemaCoreWrong : ChangeSpec := { name := "schemaCore", fn := fun _ => fun
  | [] => { results := [.lit (.bool false)], args := [] }
  | _ => none }
def SchemaCoreWrongFalsely : Prop := schemaCoreRow.holds Try.pinned (OpenSpec.ofChange schemaCoreWrong)

/-- 'castellanlaw13.SchemaUnion': WHATEVER THE INPUT: true; the input reads as it did. -/
def schemaUnionSpec : ChangeSpec := { name := "schemaUnion", fn := fun _ => fun
  | [d1, d2, d3] => { results := [.lit (.bool true)], args := [d1, d2, d3] }
  | _ => none }
def schemaUnionRow : OpenClaim := { program := "ytkinemlgifeimaa", sum := "d98f1a7f6bc855b14ff3afbc74a63deec6a87d7a73665704c43db89dcc0355f9", func := "castellan/castellanlaw13.SchemaUnion", spec := "schemaUnion", unfollowed := true, recurses := true, apart := false }
def SchemaUnionSaid : Prop := schemaUnionRow.holds Try.pinned (OpenSpec.ofChange schemaUnionSpec)

/-- ITS FALSE NEIGHBOUR: 'it returns false'. Refute it at one input. -/
def schemaUnionWrong : ChangeSpec := { name := "schemaUnion", fn := fun _ => fun
  | [d1, d2, d3] => { results := [.lit (.bool false)], args := [d1, d2, d3] }
  | _ => none }
def SchemaUnionWrongFalsely : Prop := schemaUnionRow.holds Try.pinned (OpenSpec.ofChange schemaUnionWrong)

/-- 'castellanlaw13.SchemaChains': WHATEVER THE INPUT: true; the input reads as it did. -/
def schemaChainsSpec : ChangeSpec := { name := "schemaChains", fn := fun _ => fun
  | [d] => { results := [.lit (.bool true)], args := [d] }
  | _ => none }
def schemaChainsRow : OpenClaim := { program := "ytkinemlgifeimaa", sum := "d98f1a7f6bc855b14ff3afbc74a63deec6a87d7a73665704c43db89dcc0355f9", func := "castellan/castellanlaw13.SchemaChains", spec := "schemaChains", unfollowed := true, recurses := true, apart := false }
def SchemaChainsSaid : Prop := schemaChainsRow.holds Try.pinned (OpenSpec.ofChange schemaChainsSpec)

/-- ITS FALSE NEIGHBOUR: 'it returns false'. Refute it at one input. -/
def schemaChainsWrong : ChangeSpec := { name := "schemaChains", fn := fun _ => fun
  | [d] => { results := [.lit (.bool false)], args := [d] }
  | _ => none }
def SchemaChainsWrongFalsely : Prop := schemaChainsRow.holds Try.pinned (OpenSpec.ofChange schemaChainsWrong)

/- THE SECOND FORM. 'bulk': how many values and letters a reading holds, each counted each time it is reached (what is shared counts as often as it is met; a slice's spare places count too). A statement '..UptoSaid' is the law's where the arguments, and the package variables that the reading takes, are together of bulk at most 1048576: NARROWER than '..Said'. Prove '..Said' where nothing that the law and all that it calls make is longer than what came in: it says more and counts as full. Else prove '..UptoSaid'. A law counts once. -/
mutual
def uptoBulk {H : Type} : DataW H → Nat
  | .lit (.string bytes) => bytes.length + 1
  | .lit _ => 1
  | .nil => 1
  | .ptr d => uptoBulk d + 1
  | .slice elems spare => uptoBulkAll elems + uptoBulkAll spare + 1
  | .agg parts => uptoBulkAll parts + 1
  | .iface _ d => uptoBulk d + 1
  | .map entries => uptoBulkEntries entries + 1
  | .held _ => 1
def uptoBulkAll {H : Type} : List (DataW H) → Nat
  | [] => 0
  | d :: r => uptoBulk d + uptoBulkAll r
def uptoBulkEntries {H : Type} : List (Lit × DataW H) → Nat
  | [] => 0
  | x :: r => uptoBulkEntry x + uptoBulkEntries r
def uptoBulkEntry {H : Type} : Lit × DataW H → Nat
  | (.string bytes, d) => bytes.length + uptoBulk d + 1
  | (_, d) => uptoBulk d + 1
 end
def uptoSmall : (H : Type) → List (DataW H) → Bool := fun _ ds => decide (uptoBulkAll ds ≤ 1048576)
def OpenSpec.upto (s : _root_.Go.ChangeSpec) : _root_.Go.OpenSpec := { _root_.Go.OpenSpec.ofChange s with cond := some uptoSmall }

/-- 'castellanlaw13.SchemaChecks', WHERE WHAT IT READS IS OF BULK AT MOST 1048576: true; the input reads as it did. -/
def schemaChecksUptoRow : OpenClaim := { program := "ytkinemlgifeimaa", sum := "d98f1a7f6bc855b14ff3afbc74a63deec6a87d7a73665704c43db89dcc0355f9", func := "castellan/castellanlaw13.SchemaChecks", spec := "schemaChecks", unfollowed := true, recurses := true, apart := false, narrowed := true }
def SchemaChecksUptoSaid : Prop := schemaChecksUptoRow.holds Try.pinned (OpenSpec.upto schemaChecksSpec)

/-- 'castellanlaw13.SchemaFinds', WHERE WHAT IT READS IS OF BULK AT MOST 1048576: true; the input reads as it did. -/
def schemaFindsUptoRow : OpenClaim := { program := "ytkinemlgifeimaa", sum := "d98f1a7f6bc855b14ff3afbc74a63deec6a87d7a73665704c43db89dcc0355f9", func := "castellan/castellanlaw13.SchemaFinds", spec := "schemaFinds", unfollowed := true, recurses := true, apart := false, narrowed := true }
def SchemaFindsUptoSaid : Prop := schemaFindsUptoRow.holds Try.pinned (OpenSpec.upto schemaFindsSpec)

/-- 'castellanlaw13.SchemaWants', WHERE WHAT IT READS IS OF BULK AT MOST 1048576: true; the input reads as it did. -/
def schemaWantsUptoRow : OpenClaim := { program := "ytkinemlgifeimaa", sum := "d98f1a7f6bc855b14ff3afbc74a63deec6a87d7a73665704c43db89dcc0355f9", func := "castellan/castellanlaw13.SchemaWants", spec := "schemaWants", unfollowed := true, recurses := true, apart := false, narrowed := true }
def SchemaWantsUptoSaid : Prop := schemaWantsUptoRow.holds Try.pinned (OpenSpec.upto schemaWantsSpec)

/-- 'castellanlaw13.SchemaCore', WHERE WHAT IT READS IS OF BULK AT MOST 1048576: true; the input reads as it did. -/
def schemaCoreUptoRow : OpenClaim := { program := "ytkinemlgifeimaa", sum := "d98f1a7f6bc855b14ff3afbc74a63deec6a87d7a73665704c43db89dcc0355f9", func := "castellan/castellanlaw13.SchemaCore", spec := "schemaCore", unfollowed := true, recurses := true, apart := false, narrowed := true }
def SchemaCoreUptoSaid : Prop := schemaCoreUptoRow.holds Try.pinned (OpenSpec.upto schemaCoreSpec)

/-- 'castellanlaw13.SchemaUnion', WHERE WHAT IT READS IS OF BULK AT MOST 1048576: true; the input reads as it did. -/
def schemaUnionUptoRow : OpenClaim := { program := "ytkinemlgifeimaa", sum := "d98f1a7f6bc855b14ff3afbc74a63deec6a87d7a73665704c43db89dcc0355f9", func := "castellan/castellanlaw13.SchemaUnion", spec := "schemaUnion", unfollowed := true, recurses := true, apart := false, narrowed := true }
def SchemaUnionUptoSaid : Prop := schemaUnionUptoRow.holds Try.pinned (OpenSpec.upto schemaUnionSpec)

/-- 'castellanlaw13.SchemaChains', WHERE WHAT IT READS IS OF BULK AT MOST 1048576: true; the input reads as it did. -/
def schemaChainsUptoRow : OpenClaim := { program := "ytkinemlgifeimaa", sum := "d98f1a7f6bc855b14ff3afbc74a63deec6a87d7a73665704c43db89dcc0355f9", func := "castellan/castellanlaw13.SchemaChains", spec := "schemaChains", unfollowed := true, recurses := true, apart := false, narrowed := true }
def SchemaChainsUptoSaid : Prop := schemaChainsUptoRow.holds Try.pinned (OpenSpec.upto schemaChainsSpec)

end Rows
end Go.Proofs.Ytkinemlgifeimaa
