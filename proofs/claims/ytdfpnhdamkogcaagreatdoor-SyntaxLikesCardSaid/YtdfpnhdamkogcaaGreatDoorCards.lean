/-
  DERIVED. GIVEN WITH THE SEED: THE CARDS: each row of YtdfpnhdamkogcaaGreatDoorRows.lean that lists a variable, with what it lists TIED to the program's text (the seventh form; the later family's looks); each row that meets fmt, with fmt's text TOLD by the authors' own Lean function (tested against real Go, not proved from fmt's source: count such statements apart). THE CARD IS WHAT COUNTS. Prove the row's statement (the work); the ties are given (YtdfpnhdamkogcaaGreatDoorTie.lean); close each card by the builder's one call (the guide's Derived/Test/ToyasCard.lean, 'card_holds'). Laid BY PROGRAM, IN A SANDBOX (cutbox-door.mjs). By AI agents, Wed Nov 11 2026. No macro, syntax, notation, axiom, sorry.
-/
import Derived.Test.YtdfpnhdamkogcaaGreatDoorRows
import GoSem.ClaimSeven
namespace Go.Proofs.YtdfpnhdamkogcaaGreatDoor
namespace Rows

/-- THE TIED CARD OF 'castellanlaw12.SyntaxNorms'. -/
def syntaxNormsCard : Claim7 := { stood := { row := syntaxNormsRow, standIns := [], harness := (true, "dfa736ad838de89a7329139979b4ad3e9d9f468598132b9c0c113f89bb90823e"), looks := true }, kinds := [], alts := [], laidByText := true, laidKinds := [.data, .data, .data, .data, .sentinel, .sentinel, .pinned], laidTests := true, laidLooks := .later }
def SyntaxNormsCardSaid : Prop := Claim7.holds Tryz.pinned (.plain (OpenSpec.ofChange syntaxNormsSpec)) syntaxNormsCard

/-- THE TIED CARD OF 'castellanlaw12.SyntaxOrders'. -/
def syntaxOrdersCard : Claim7 := { stood := { row := syntaxOrdersRow, standIns := [], harness := (true, "dfa736ad838de89a7329139979b4ad3e9d9f468598132b9c0c113f89bb90823e"), looks := true }, kinds := [], alts := [], laidByText := true, laidKinds := [.data, .data, .data, .data, .sentinel, .sentinel, .pinned], laidTests := true, laidLooks := .later }
def SyntaxOrdersCardSaid : Prop := Claim7.holds Tryz.pinned (.plain (OpenSpec.ofChange syntaxOrdersSpec)) syntaxOrdersCard

/-- THE TIED CARD OF 'castellanlaw12.SyntaxLikes'. -/
def syntaxLikesCard : Claim7 := { stood := { row := syntaxLikesRow, standIns := [], harness := (true, "dfa736ad838de89a7329139979b4ad3e9d9f468598132b9c0c113f89bb90823e"), looks := true }, kinds := [], alts := [], laidByText := true, laidKinds := [.data, .data, .data, .data, .sentinel, .sentinel, .pinned], laidTests := true, laidLooks := .later }
def SyntaxLikesCardSaid : Prop := Claim7.holds Tryz.pinned (.plain (OpenSpec.ofChange syntaxLikesSpec)) syntaxLikesCard

/-- THE TIED CARD OF 'castellanlaw12.SyntaxRanks'. -/
def syntaxRanksCard : Claim7 := { stood := { row := syntaxRanksRow, standIns := [], harness := (true, "dfa736ad838de89a7329139979b4ad3e9d9f468598132b9c0c113f89bb90823e"), looks := true }, kinds := [], alts := [], laidByText := true, laidKinds := [.data, .data, .data, .data, .sentinel, .sentinel, .pinned], laidTests := true, laidLooks := .later }
def SyntaxRanksCardSaid : Prop := Claim7.holds Tryz.pinned (.plain (OpenSpec.ofChange syntaxRanksSpec)) syntaxRanksCard

/-- THE TIED CARD OF 'castellanlaw12.SyntaxNumbers'. -/
def syntaxNumbersCard : Claim7 := { stood := { row := syntaxNumbersRow, standIns := [], harness := (true, "dfa736ad838de89a7329139979b4ad3e9d9f468598132b9c0c113f89bb90823e"), looks := true }, kinds := [], alts := [], laidByText := true, laidKinds := [.data, .data, .data, .data, .sentinel, .sentinel, .pinned], laidTests := true, laidLooks := .later }
def SyntaxNumbersCardSaid : Prop := Claim7.holds Tryz.pinned (.plain (OpenSpec.ofChange syntaxNumbersSpec)) syntaxNumbersCard

/-- THE TIED CARD OF 'castellanlaw12.SyntaxTwice'. -/
def syntaxTwiceCard : Claim7 := { stood := { row := syntaxTwiceRow, standIns := [], harness := (true, "dfa736ad838de89a7329139979b4ad3e9d9f468598132b9c0c113f89bb90823e"), looks := true }, kinds := [], alts := [], laidByText := true, laidKinds := [.data, .data, .data, .data, .sentinel, .sentinel, .pinned], laidTests := true, laidLooks := .later }
def SyntaxTwiceCardSaid : Prop := Claim7.holds Tryz.pinned (.plain (OpenSpec.ofChange syntaxTwiceSpec)) syntaxTwiceCard

/-- THE SECOND FORM's CARD OF 'castellanlaw12.SyntaxNorms'. -/
def syntaxNormsUptoCard : Claim7 := { stood := { row := syntaxNormsUptoRow, standIns := [], harness := (true, "dfa736ad838de89a7329139979b4ad3e9d9f468598132b9c0c113f89bb90823e"), looks := true }, kinds := [], alts := [], laidByText := true, laidKinds := [.data, .data, .data, .data, .sentinel, .sentinel, .pinned], laidTests := true, laidLooks := .later }
def SyntaxNormsUptoCardSaid : Prop := Claim7.holds Tryz.pinned (.plain (OpenSpec.upto syntaxNormsSpec)) syntaxNormsUptoCard

/-- THE SECOND FORM's CARD OF 'castellanlaw12.SyntaxOrders'. -/
def syntaxOrdersUptoCard : Claim7 := { stood := { row := syntaxOrdersUptoRow, standIns := [], harness := (true, "dfa736ad838de89a7329139979b4ad3e9d9f468598132b9c0c113f89bb90823e"), looks := true }, kinds := [], alts := [], laidByText := true, laidKinds := [.data, .data, .data, .data, .sentinel, .sentinel, .pinned], laidTests := true, laidLooks := .later }
def SyntaxOrdersUptoCardSaid : Prop := Claim7.holds Tryz.pinned (.plain (OpenSpec.upto syntaxOrdersSpec)) syntaxOrdersUptoCard

/-- THE SECOND FORM's CARD OF 'castellanlaw12.SyntaxLikes'. -/
def syntaxLikesUptoCard : Claim7 := { stood := { row := syntaxLikesUptoRow, standIns := [], harness := (true, "dfa736ad838de89a7329139979b4ad3e9d9f468598132b9c0c113f89bb90823e"), looks := true }, kinds := [], alts := [], laidByText := true, laidKinds := [.data, .data, .data, .data, .sentinel, .sentinel, .pinned], laidTests := true, laidLooks := .later }
def SyntaxLikesUptoCardSaid : Prop := Claim7.holds Tryz.pinned (.plain (OpenSpec.upto syntaxLikesSpec)) syntaxLikesUptoCard

/-- THE SECOND FORM's CARD OF 'castellanlaw12.SyntaxRanks'. -/
def syntaxRanksUptoCard : Claim7 := { stood := { row := syntaxRanksUptoRow, standIns := [], harness := (true, "dfa736ad838de89a7329139979b4ad3e9d9f468598132b9c0c113f89bb90823e"), looks := true }, kinds := [], alts := [], laidByText := true, laidKinds := [.data, .data, .data, .data, .sentinel, .sentinel, .pinned], laidTests := true, laidLooks := .later }
def SyntaxRanksUptoCardSaid : Prop := Claim7.holds Tryz.pinned (.plain (OpenSpec.upto syntaxRanksSpec)) syntaxRanksUptoCard

/-- THE SECOND FORM's CARD OF 'castellanlaw12.SyntaxNumbers'. -/
def syntaxNumbersUptoCard : Claim7 := { stood := { row := syntaxNumbersUptoRow, standIns := [], harness := (true, "dfa736ad838de89a7329139979b4ad3e9d9f468598132b9c0c113f89bb90823e"), looks := true }, kinds := [], alts := [], laidByText := true, laidKinds := [.data, .data, .data, .data, .sentinel, .sentinel, .pinned], laidTests := true, laidLooks := .later }
def SyntaxNumbersUptoCardSaid : Prop := Claim7.holds Tryz.pinned (.plain (OpenSpec.upto syntaxNumbersSpec)) syntaxNumbersUptoCard

/-- THE SECOND FORM's CARD OF 'castellanlaw12.SyntaxTwice'. -/
def syntaxTwiceUptoCard : Claim7 := { stood := { row := syntaxTwiceUptoRow, standIns := [], harness := (true, "dfa736ad838de89a7329139979b4ad3e9d9f468598132b9c0c113f89bb90823e"), looks := true }, kinds := [], alts := [], laidByText := true, laidKinds := [.data, .data, .data, .data, .sentinel, .sentinel, .pinned], laidTests := true, laidLooks := .later }
def SyntaxTwiceUptoCardSaid : Prop := Claim7.holds Tryz.pinned (.plain (OpenSpec.upto syntaxTwiceSpec)) syntaxTwiceUptoCard
end Rows
end Go.Proofs.YtdfpnhdamkogcaaGreatDoor
