/-
  No cell of these rows narrows 'for every input' (looked for: loops, veiled, ifaces, maps, wideKeys, modest, calm, conditions, laid).
  DERIVED. THE GIVEN ROWS OF THIS SEAT. 7 by the template 'for every input the law returns true; each argument reads behind the call as it read before'; 0 by the template 'total and deterministic' (their statements: YtcijjblcoelabaaTotals.lean).
  GIVEN WITH THE SEED: the statements are not yours to turn. If you find one false, say at which input.
  Laid BY PROGRAM, IN A SANDBOX (cutbox-rows.mjs): the forced cells as the released guide's own fill.sh prints them over the translation 8d6bc30044483fe9… (all of the seat's roots in one cut). By AI agents, Wed Nov 11 2026. No macro, syntax, notation, axiom, sorry.
-/
import Derived.Test.YtcijjblcoelabaaChecked
import GoSem.Claim
import GoSem.ClaimJoined
import GoSem.ClaimMapViews
import Derived.JoinedTies
import Derived.KernelRfl
namespace Go.Proofs.Ytcijjblcoelabaa
/- THE CELL 'sum', in the pinned program and in every row, IS THE sha256 OF THE DUMP (.gsa) THAT YtcijjblcoelabaaProg.lean LOADS. Nothing in Lean hashes anything: it is a label: what it is worth is what the hold of that sum in a sandbox is worth. -/
noncomputable def Try.pinned : Pinned := { name := "ytcijjblcoelabaa", sum := "8d6bc30044483fe9849ea82e495f44910720d1e01692904213ff4c362ea4d544", checked := Try.checked }
namespace Rows
def none {H : Type} : Left H := { results := [], args := [] }

/-- 'castellanlaw23.PolicyTries': WHATEVER THE INPUT: true; the input reads as it did. -/
def policyTriesSpec : ChangeSpec := { name := "policyTries", fn := fun _ => fun
  | [d1, d2, d3] => { results := [.lit (.bool true)], args := [d1, d2, d3] }
  | _ => none }
def policyTriesRow : OpenClaim := { program := "ytcijjblcoelabaa", sum := "8d6bc30044483fe9849ea82e495f44910720d1e01692904213ff4c362ea4d544", func := "castellan/castellanlaw23.PolicyTries", spec := "policyTries", inPlace := ["slices.overlaps[int64]"], unfollowed := true, recurses := true, plainKeys := false, apart := false }
def PolicyTriesSaid : Prop := policyTriesRow.holds Try.pinned (OpenSpec.ofChange policyTriesSpec)

/-- ITS FALSE NEIGHBOUR: 'it returns false'. Refute it at one input. -/
def policyTriesWrong : ChangeSpec := { name := "policyTries", fn := fun _ => fun
  | [d1, d2, d3] => { results := [.lit (.bool false)], args := [d1, d2, d3] }
  | _ => none }
def PolicyTriesWrongFalsely : Prop := policyTriesRow.holds Try.pinned (OpenSpec.ofChange policyTriesWrong)

/-- 'castellanlaw23.PolicyLocks': WHATEVER THE INPUT: true; the input reads as it did. -/
def policyLocksSpec : ChangeSpec := { name := "policyLocks", fn := fun _ => fun
  | [d1, d2, d3] => { results := [.lit (.bool true)], args := [d1, d2, d3] }
  | _ => none }
def policyLocksRow : OpenClaim := { program := "ytcijjblcoelabaa", sum := "8d6bc30044483fe9849ea82e495f44910720d1e01692904213ff4c362ea4d544", func := "castellan/castellanlaw23.PolicyLocks", spec := "policyLocks", inPlace := ["slices.overlaps[int64]"], unfollowed := true, recurses := true, plainKeys := false, apart := false }
def PolicyLocksSaid : Prop := policyLocksRow.holds Try.pinned (OpenSpec.ofChange policyLocksSpec)

/-- ITS FALSE NEIGHBOUR: 'it returns false'. Refute it at one input. -/
def policyLocksWrong : ChangeSpec := { name := "policyLocks", fn := fun _ => fun
  | [d1, d2, d3] => { results := [.lit (.bool false)], args := [d1, d2, d3] }
  | _ => none }
def PolicyLocksWrongFalsely : Prop := policyLocksRow.holds Try.pinned (OpenSpec.ofChange policyLocksWrong)

/-- 'castellanlaw26.PageAsks': WHATEVER THE INPUT: true; the input reads as it did. -/
def pageAsksSpec : ChangeSpec := { name := "pageAsks", fn := fun _ => fun
  | [d1, d2, d3] => { results := [.lit (.bool true)], args := [d1, d2, d3] }
  | _ => none }
def pageAsksRow : OpenClaim := { program := "ytcijjblcoelabaa", sum := "8d6bc30044483fe9849ea82e495f44910720d1e01692904213ff4c362ea4d544", func := "castellan/castellanlaw26.PageAsks", spec := "pageAsks", unfollowed := true, recurses := true, plainKeys := false, apart := false }
def PageAsksSaid : Prop := pageAsksRow.holds Try.pinned (OpenSpec.ofChange pageAsksSpec)

/-- ITS FALSE NEIGHBOUR: 'it returns false'. Refute it at one input. -/
def pageAsksWrong : ChangeSpec := { name := "pageAsks", fn := fun _ => fun
  | [d1, d2, d3] => { results := [.lit (.bool false)], args := [d1, d2, d3] }
  | _ => none }
def PageAsksWrongFalsely : Prop := pageAsksRow.holds Try.pinned (OpenSpec.ofChange pageAsksWrong)

/-- 'castellanlaw26.PageBack': WHATEVER THE INPUT: true; the input reads as it did. -/
def pageBackSpec : ChangeSpec := { name := "pageBack", fn := fun _ => fun
  | [d1, d2] => { results := [.lit (.bool true)], args := [d1, d2] }
  | _ => none }
def pageBackRow : OpenClaim := { program := "ytcijjblcoelabaa", sum := "8d6bc30044483fe9849ea82e495f44910720d1e01692904213ff4c362ea4d544", func := "castellan/castellanlaw26.PageBack", spec := "pageBack", unfollowed := true, recurses := true, plainKeys := false, apart := false }
def PageBackSaid : Prop := pageBackRow.holds Try.pinned (OpenSpec.ofChange pageBackSpec)

/-- ITS FALSE NEIGHBOUR: 'it returns false'. Refute it at one input. -/
def pageBackWrong : ChangeSpec := { name := "pageBack", fn := fun _ => fun
  | [d1, d2] => { results := [.lit (.bool false)], args := [d1, d2] }
  | _ => none }
def PageBackWrongFalsely : Prop := pageBackRow.holds Try.pinned (OpenSpec.ofChange pageBackWrong)

/-- 'castellanlaw26.PagePlays': WHATEVER THE INPUT: true; the input reads as it did. -/
def pagePlaysSpec : ChangeSpec := { name := "pagePlays", fn := fun _ => fun
  | [d] => { results := [.lit (.bool true)], args := [d] }
  | _ => none }
def pagePlaysRow : OpenClaim := { program := "ytcijjblcoelabaa", sum := "8d6bc30044483fe9849ea82e495f44910720d1e01692904213ff4c362ea4d544", func := "castellan/castellanlaw26.PagePlays", spec := "pagePlays", unfollowed := true, recurses := true, plainKeys := false, apart := false }
def PagePlaysSaid : Prop := pagePlaysRow.holds Try.pinned (OpenSpec.ofChange pagePlaysSpec)

/-- ITS FALSE NEIGHBOUR: 'it returns false'. Refute it at one input. -/
def pagePlaysWrong : ChangeSpec := { name := "pagePlays", fn := fun _ => fun
  | [d] => { results := [.lit (.bool false)], args := [d] }
  | _ => none }
def PagePlaysWrongFalsely : Prop := pagePlaysRow.holds Try.pinned (OpenSpec.ofChange pagePlaysWrong)

/-- 'castellanlaw26.PageOnce': WHATEVER THE INPUT: true; the input reads as it did. -/
def pageOnceSpec : ChangeSpec := { name := "pageOnce", fn := fun _ => fun
  | [d1, d2] => { results := [.lit (.bool true)], args := [d1, d2] }
  | _ => none }
def pageOnceRow : OpenClaim := { program := "ytcijjblcoelabaa", sum := "8d6bc30044483fe9849ea82e495f44910720d1e01692904213ff4c362ea4d544", func := "castellan/castellanlaw26.PageOnce", spec := "pageOnce", unfollowed := true, recurses := true, plainKeys := false, apart := false }
def PageOnceSaid : Prop := pageOnceRow.holds Try.pinned (OpenSpec.ofChange pageOnceSpec)

/-- ITS FALSE NEIGHBOUR: 'it returns false'. Refute it at one input. -/
def pageOnceWrong : ChangeSpec := { name := "pageOnce", fn := fun _ => fun
  | [d1, d2] => { results := [.lit (.bool false)], args := [d1, d2] }
  | _ => none }
def PageOnceWrongFalsely : Prop := pageOnceRow.holds Try.pinned (OpenSpec.ofChange pageOnceWrong)

/-- 'castellanlaw26.PageNil': WHATEVER THE INPUT: true; the input reads as it did. -/
def pageNilSpec : ChangeSpec := { name := "pageNil", fn := fun _ => fun
  | [] => { results := [.lit (.bool true)], args := [] }
  | _ => none }
def pageNilRow : OpenClaim := { program := "ytcijjblcoelabaa", sum := "8d6bc30044483fe9849ea82e495f44910720d1e01692904213ff4c362ea4d544", func := "castellan/castellanlaw26.PageNil", spec := "pageNil", unfollowed := true, recurses := true, plainKeys := false, apart := false }
def PageNilSaid : Prop := pageNilRow.holds Try.pinned (OpenSpec.ofChange pageNilSpec)

/-- ITS FALSE NEIGHBOUR: 'it returns false'. Refute it at one input. -/
def pageNilWrong : ChangeSpec := { name := "pageNil", fn := fun _ => fun
  | [] => { results := [.lit (.bool false)], args := [] }
  | _ => none }
def PageNilWrongFalsely : Prop := pageNilRow.holds Try.pinned (OpenSpec.ofChange pageNilWrong)

/- THE SECOND FORM. 'bulk': how many values and letters a reading holds, each counted each time it is reached (what is shared counts as often as it is met; a slice's spare places count too). A statement '..UptoSaid' is the law's where the arguments, and the package variables that the reading takes, are together of bulk at most 1048576: NARROWER than '..Said'. Prove '..Said' where nothing that the law and all that it calls make is longer than what came in: it says more and counts as full. Else prove '..UptoSaid'. A law counts once. -/
mutual
def uptoBulk {H : Type} : DataW H → Nat
  | .lit (.string bytes) => bytes.length + 1
  | .lit _ => 1
  | .nil => 1
  | .ptr d => uptoBulk d + 1
  | .slice elems spare => uptoBulkAll elems + uptoBulkAll spare + 1
  | .agg parts => uptoBulkAll parts + 1
  | .iface _ d => uptoBulk d + 1
  | .map entries => uptoBulkEntries entries + 1
  | .held _ => 1
def uptoBulkAll {H : Type} : List (DataW H) → Nat
  | [] => 0
  | d :: r => uptoBulk d + uptoBulkAll r
def uptoBulkEntries {H : Type} : List (Lit × DataW H) → Nat
  | [] => 0
  | x :: r => uptoBulkEntry x + uptoBulkEntries r
def uptoBulkEntry {H : Type} : Lit × DataW H → Nat
  | (.string bytes, d) => bytes.length + uptoBulk d + 1
  | (_, d) => uptoBulk d + 1
 end
def uptoSmall : (H : Type) → List (DataW H) → Bool := fun _ ds => decide (uptoBulkAll ds ≤ 1048576)
def OpenSpec.upto (s : _root_.Go.ChangeSpec) : _root_.Go.OpenSpec := { _root_.Go.OpenSpec.ofChange s with cond := some uptoSmall }

/-- 'castellanlaw23.PolicyTries', WHERE WHAT IT READS IS OF BULK AT MOST 1048576: true; the input reads as it did. -/
def policyTriesUptoRow : OpenClaim := { program := "ytcijjblcoelabaa", sum := "8d6bc30044483fe9849ea82e495f44910720d1e01692904213ff4c362ea4d544", func := "castellan/castellanlaw23.PolicyTries", spec := "policyTries", inPlace := ["slices.overlaps[int64]"], unfollowed := true, recurses := true, plainKeys := false, apart := false, narrowed := true }
def PolicyTriesUptoSaid : Prop := policyTriesUptoRow.holds Try.pinned (OpenSpec.upto policyTriesSpec)

/-- 'castellanlaw23.PolicyLocks', WHERE WHAT IT READS IS OF BULK AT MOST 1048576: true; the input reads as it did. -/
def policyLocksUptoRow : OpenClaim := { program := "ytcijjblcoelabaa", sum := "8d6bc30044483fe9849ea82e495f44910720d1e01692904213ff4c362ea4d544", func := "castellan/castellanlaw23.PolicyLocks", spec := "policyLocks", inPlace := ["slices.overlaps[int64]"], unfollowed := true, recurses := true, plainKeys := false, apart := false, narrowed := true }
def PolicyLocksUptoSaid : Prop := policyLocksUptoRow.holds Try.pinned (OpenSpec.upto policyLocksSpec)

/-- 'castellanlaw26.PageAsks', WHERE WHAT IT READS IS OF BULK AT MOST 1048576: true; the input reads as it did. -/
def pageAsksUptoRow : OpenClaim := { program := "ytcijjblcoelabaa", sum := "8d6bc30044483fe9849ea82e495f44910720d1e01692904213ff4c362ea4d544", func := "castellan/castellanlaw26.PageAsks", spec := "pageAsks", unfollowed := true, recurses := true, plainKeys := false, apart := false, narrowed := true }
def PageAsksUptoSaid : Prop := pageAsksUptoRow.holds Try.pinned (OpenSpec.upto pageAsksSpec)

/-- 'castellanlaw26.PageBack', WHERE WHAT IT READS IS OF BULK AT MOST 1048576: true; the input reads as it did. -/
def pageBackUptoRow : OpenClaim := { program := "ytcijjblcoelabaa", sum := "8d6bc30044483fe9849ea82e495f44910720d1e01692904213ff4c362ea4d544", func := "castellan/castellanlaw26.PageBack", spec := "pageBack", unfollowed := true, recurses := true, plainKeys := false, apart := false, narrowed := true }
def PageBackUptoSaid : Prop := pageBackUptoRow.holds Try.pinned (OpenSpec.upto pageBackSpec)

/-- 'castellanlaw26.PagePlays', WHERE WHAT IT READS IS OF BULK AT MOST 1048576: true; the input reads as it did. -/
def pagePlaysUptoRow : OpenClaim := { program := "ytcijjblcoelabaa", sum := "8d6bc30044483fe9849ea82e495f44910720d1e01692904213ff4c362ea4d544", func := "castellan/castellanlaw26.PagePlays", spec := "pagePlays", unfollowed := true, recurses := true, plainKeys := false, apart := false, narrowed := true }
def PagePlaysUptoSaid : Prop := pagePlaysUptoRow.holds Try.pinned (OpenSpec.upto pagePlaysSpec)

/-- 'castellanlaw26.PageOnce', WHERE WHAT IT READS IS OF BULK AT MOST 1048576: true; the input reads as it did. -/
def pageOnceUptoRow : OpenClaim := { program := "ytcijjblcoelabaa", sum := "8d6bc30044483fe9849ea82e495f44910720d1e01692904213ff4c362ea4d544", func := "castellan/castellanlaw26.PageOnce", spec := "pageOnce", unfollowed := true, recurses := true, plainKeys := false, apart := false, narrowed := true }
def PageOnceUptoSaid : Prop := pageOnceUptoRow.holds Try.pinned (OpenSpec.upto pageOnceSpec)

/-- 'castellanlaw26.PageNil', WHERE WHAT IT READS IS OF BULK AT MOST 1048576: true; the input reads as it did. -/
def pageNilUptoRow : OpenClaim := { program := "ytcijjblcoelabaa", sum := "8d6bc30044483fe9849ea82e495f44910720d1e01692904213ff4c362ea4d544", func := "castellan/castellanlaw26.PageNil", spec := "pageNil", unfollowed := true, recurses := true, plainKeys := false, apart := false, narrowed := true }
def PageNilUptoSaid : Prop := pageNilUptoRow.holds Try.pinned (OpenSpec.upto pageNilSpec)

end Rows
end Go.Proofs.Ytcijjblcoelabaa
