/-
  DERIVED. GIVEN WITH THE SEED: THE CARDS: each row of YtpdionmecflibaaDoorRows.lean that lists a variable, with what it lists TIED to the program's text (the seventh form; the later family's looks); each row that meets fmt, with fmt's text TOLD by the authors' own Lean function (tested against real Go, not proved from fmt's source: count such statements apart). THE CARD IS WHAT COUNTS. Prove the row's statement (the work); the ties are given (YtpdionmecflibaaDoorTie.lean); close each card by the builder's one call (the guide's Derived/Test/ToyasCard.lean, 'card_holds'). Laid BY PROGRAM, IN A SANDBOX (cutbox-door.mjs). By AI agents, Wed Nov 11 2026. No macro, syntax, notation, axiom, sorry.
-/
import Derived.Test.YtpdionmecflibaaDoorRows
import GoSem.ClaimSeven
namespace Go.Proofs.YtpdionmecflibaaDoor
namespace Rows

/-- THE TIED CARD OF 'castellanlaw03.ShaSums'. -/
def shaSumsCard : Claim7 := { stood := { row := shaSumsRow, standIns := [], harness := (true, "266a4d1ec6ea1041736fb0242956d3e2344d47b23a268597fc56fba64255fb32"), looks := false }, kinds := [], alts := [], laidByText := true, laidKinds := [.data, .data], laidTests := true, laidLooks := .later }
def ShaSumsCardSaid : Prop := Claim7.holds Tryd.pinned (.plain (OpenSpec.ofChange shaSumsSpec)) shaSumsCard

/-- THE TIED CARD OF 'castellanlaw03.ShaStates'. -/
def shaStatesCard : Claim7 := { stood := { row := shaStatesRow, standIns := [], harness := (true, "266a4d1ec6ea1041736fb0242956d3e2344d47b23a268597fc56fba64255fb32"), looks := false }, kinds := [], alts := [], laidByText := true, laidKinds := [.data, .data], laidTests := true, laidLooks := .later }
def ShaStatesCardSaid : Prop := Claim7.holds Tryd.pinned (.plain (OpenSpec.ofChange shaStatesSpec)) shaStatesCard

/-- THE TIED CARD OF 'castellanlaw04.PassMakes'. -/
def passMakesCard : Claim7 := { stood := { row := passMakesRow, standIns := [], harness := (true, "266a4d1ec6ea1041736fb0242956d3e2344d47b23a268597fc56fba64255fb32"), looks := false }, kinds := [], alts := [], laidByText := true, laidKinds := [.data, .data], laidTests := true, laidLooks := .later }
def PassMakesCardSaid : Prop := Claim7.holds Tryd.pinned (.plain (OpenSpec.ofChange passMakesSpec)) passMakesCard

/-- THE TIED CARD OF 'castellanlaw04.PassChecks'. -/
def passChecksCard : Claim7 := { stood := { row := passChecksRow, standIns := [], harness := (true, "266a4d1ec6ea1041736fb0242956d3e2344d47b23a268597fc56fba64255fb32"), looks := false }, kinds := [], alts := [], laidByText := true, laidKinds := [.data, .data], laidTests := true, laidLooks := .later }
def PassChecksCardSaid : Prop := Claim7.holds Tryd.pinned (.plain (OpenSpec.ofChange passChecksSpec)) passChecksCard

/-- THE SECOND FORM's CARD OF 'castellanlaw03.ShaSums'. -/
def shaSumsUptoCard : Claim7 := { stood := { row := shaSumsUptoRow, standIns := [], harness := (true, "266a4d1ec6ea1041736fb0242956d3e2344d47b23a268597fc56fba64255fb32"), looks := false }, kinds := [], alts := [], laidByText := true, laidKinds := [.data, .data], laidTests := true, laidLooks := .later }
def ShaSumsUptoCardSaid : Prop := Claim7.holds Tryd.pinned (.plain (OpenSpec.upto shaSumsSpec)) shaSumsUptoCard

/-- THE SECOND FORM's CARD OF 'castellanlaw03.ShaStates'. -/
def shaStatesUptoCard : Claim7 := { stood := { row := shaStatesUptoRow, standIns := [], harness := (true, "266a4d1ec6ea1041736fb0242956d3e2344d47b23a268597fc56fba64255fb32"), looks := false }, kinds := [], alts := [], laidByText := true, laidKinds := [.data, .data], laidTests := true, laidLooks := .later }
def ShaStatesUptoCardSaid : Prop := Claim7.holds Tryd.pinned (.plain (OpenSpec.upto shaStatesSpec)) shaStatesUptoCard

/-- THE SECOND FORM's CARD OF 'castellanlaw04.PassMakes'. -/
def passMakesUptoCard : Claim7 := { stood := { row := passMakesUptoRow, standIns := [], harness := (true, "266a4d1ec6ea1041736fb0242956d3e2344d47b23a268597fc56fba64255fb32"), looks := false }, kinds := [], alts := [], laidByText := true, laidKinds := [.data, .data], laidTests := true, laidLooks := .later }
def PassMakesUptoCardSaid : Prop := Claim7.holds Tryd.pinned (.plain (OpenSpec.upto passMakesSpec)) passMakesUptoCard

/-- THE SECOND FORM's CARD OF 'castellanlaw04.PassChecks'. -/
def passChecksUptoCard : Claim7 := { stood := { row := passChecksUptoRow, standIns := [], harness := (true, "266a4d1ec6ea1041736fb0242956d3e2344d47b23a268597fc56fba64255fb32"), looks := false }, kinds := [], alts := [], laidByText := true, laidKinds := [.data, .data], laidTests := true, laidLooks := .later }
def PassChecksUptoCardSaid : Prop := Claim7.holds Tryd.pinned (.plain (OpenSpec.upto passChecksSpec)) passChecksUptoCard
end Rows
end Go.Proofs.YtpdionmecflibaaDoor
