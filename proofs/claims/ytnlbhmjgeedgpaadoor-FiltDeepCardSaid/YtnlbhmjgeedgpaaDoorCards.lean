/-
  DERIVED. GIVEN WITH THE SEED: THE CARDS: each row of YtnlbhmjgeedgpaaDoorRows.lean that lists a variable, with what it lists TIED to the program's text (the seventh form; the later family's looks); each row that meets fmt, with fmt's text TOLD by the authors' own Lean function (tested against real Go, not proved from fmt's source: count such statements apart). THE CARD IS WHAT COUNTS. Prove the row's statement (the work); the ties are given (YtnlbhmjgeedgpaaDoorTie.lean); close each card by the builder's one call (the guide's Derived/Test/ToyasCard.lean, 'card_holds'). Laid BY PROGRAM, IN A SANDBOX (cutbox-door.mjs). By AI agents, Wed Nov 11 2026. No macro, syntax, notation, axiom, sorry.
-/
import Derived.Test.YtnlbhmjgeedgpaaDoorRows
import GoSem.ClaimSeven
namespace Go.Proofs.YtnlbhmjgeedgpaaDoor
namespace Rows

/-- THE TIED CARD OF 'castellanlaw10.FiltParses'. -/
def filtParsesCard : Claim7 := { stood := { row := filtParsesRow, standIns := [], harness := (true, "784525d76fc44753b7c176a1d2c795d2c29bcfc5c37e6f5b1e4404fb66bb0f70"), looks := false }, kinds := [], alts := [], laidByText := true, laidKinds := [.data, .pinned], laidTests := true, laidLooks := .later }
def FiltParsesCardSaid : Prop := Claim7.holds Tryd.pinned (.plain (OpenSpec.ofChange filtParsesSpec)) filtParsesCard

/-- THE TIED CARD OF 'castellanlaw10.FiltPrints'. -/
def filtPrintsCard : Claim7 := { stood := { row := filtPrintsRow, standIns := [], harness := (true, "784525d76fc44753b7c176a1d2c795d2c29bcfc5c37e6f5b1e4404fb66bb0f70"), looks := false }, kinds := [], alts := [], laidByText := true, laidKinds := [.data, .pinned], laidTests := true, laidLooks := .later }
def FiltPrintsCardSaid : Prop := Claim7.holds Tryd.pinned (.plain (OpenSpec.ofChange filtPrintsSpec)) filtPrintsCard

/-- THE TIED CARD OF 'castellanlaw10.FiltBares'. -/
def filtBaresCard : Claim7 := { stood := { row := filtBaresRow, standIns := [], harness := (true, "784525d76fc44753b7c176a1d2c795d2c29bcfc5c37e6f5b1e4404fb66bb0f70"), looks := false }, kinds := [], alts := [], laidByText := true, laidKinds := [.data, .pinned], laidTests := true, laidLooks := .later }
def FiltBaresCardSaid : Prop := Claim7.holds Tryd.pinned (.plain (OpenSpec.ofChange filtBaresSpec)) filtBaresCard

/-- THE TIED CARD OF 'castellanlaw10.FiltBack'. -/
def filtBackCard : Claim7 := { stood := { row := filtBackRow, standIns := [], harness := (true, "784525d76fc44753b7c176a1d2c795d2c29bcfc5c37e6f5b1e4404fb66bb0f70"), looks := false }, kinds := [], alts := [], laidByText := true, laidKinds := [.data, .pinned], laidTests := true, laidLooks := .later }
def FiltBackCardSaid : Prop := Claim7.holds Tryd.pinned (.plain (OpenSpec.ofChange filtBackSpec)) filtBackCard

/-- THE TIED CARD OF 'castellanlaw10.FiltAgain'. -/
def filtAgainCard : Claim7 := { stood := { row := filtAgainRow, standIns := [], harness := (true, "784525d76fc44753b7c176a1d2c795d2c29bcfc5c37e6f5b1e4404fb66bb0f70"), looks := false }, kinds := [], alts := [], laidByText := true, laidKinds := [.data, .pinned], laidTests := true, laidLooks := .later }
def FiltAgainCardSaid : Prop := Claim7.holds Tryd.pinned (.plain (OpenSpec.ofChange filtAgainSpec)) filtAgainCard

/-- THE TIED CARD OF 'castellanlaw10.FiltDeep'. -/
def filtDeepCard : Claim7 := { stood := { row := filtDeepRow, standIns := [], harness := (true, "784525d76fc44753b7c176a1d2c795d2c29bcfc5c37e6f5b1e4404fb66bb0f70"), looks := false }, kinds := [], alts := [], laidByText := true, laidKinds := [.data, .pinned], laidTests := true, laidLooks := .later }
def FiltDeepCardSaid : Prop := Claim7.holds Tryd.pinned (.plain (OpenSpec.ofChange filtDeepSpec)) filtDeepCard

/-- THE SECOND FORM's CARD OF 'castellanlaw10.FiltParses'. -/
def filtParsesUptoCard : Claim7 := { stood := { row := filtParsesUptoRow, standIns := [], harness := (true, "784525d76fc44753b7c176a1d2c795d2c29bcfc5c37e6f5b1e4404fb66bb0f70"), looks := false }, kinds := [], alts := [], laidByText := true, laidKinds := [.data, .pinned], laidTests := true, laidLooks := .later }
def FiltParsesUptoCardSaid : Prop := Claim7.holds Tryd.pinned (.plain (OpenSpec.upto filtParsesSpec)) filtParsesUptoCard

/-- THE SECOND FORM's CARD OF 'castellanlaw10.FiltPrints'. -/
def filtPrintsUptoCard : Claim7 := { stood := { row := filtPrintsUptoRow, standIns := [], harness := (true, "784525d76fc44753b7c176a1d2c795d2c29bcfc5c37e6f5b1e4404fb66bb0f70"), looks := false }, kinds := [], alts := [], laidByText := true, laidKinds := [.data, .pinned], laidTests := true, laidLooks := .later }
def FiltPrintsUptoCardSaid : Prop := Claim7.holds Tryd.pinned (.plain (OpenSpec.upto filtPrintsSpec)) filtPrintsUptoCard

/-- THE SECOND FORM's CARD OF 'castellanlaw10.FiltBares'. -/
def filtBaresUptoCard : Claim7 := { stood := { row := filtBaresUptoRow, standIns := [], harness := (true, "784525d76fc44753b7c176a1d2c795d2c29bcfc5c37e6f5b1e4404fb66bb0f70"), looks := false }, kinds := [], alts := [], laidByText := true, laidKinds := [.data, .pinned], laidTests := true, laidLooks := .later }
def FiltBaresUptoCardSaid : Prop := Claim7.holds Tryd.pinned (.plain (OpenSpec.upto filtBaresSpec)) filtBaresUptoCard

/-- THE SECOND FORM's CARD OF 'castellanlaw10.FiltBack'. -/
def filtBackUptoCard : Claim7 := { stood := { row := filtBackUptoRow, standIns := [], harness := (true, "784525d76fc44753b7c176a1d2c795d2c29bcfc5c37e6f5b1e4404fb66bb0f70"), looks := false }, kinds := [], alts := [], laidByText := true, laidKinds := [.data, .pinned], laidTests := true, laidLooks := .later }
def FiltBackUptoCardSaid : Prop := Claim7.holds Tryd.pinned (.plain (OpenSpec.upto filtBackSpec)) filtBackUptoCard

/-- THE SECOND FORM's CARD OF 'castellanlaw10.FiltAgain'. -/
def filtAgainUptoCard : Claim7 := { stood := { row := filtAgainUptoRow, standIns := [], harness := (true, "784525d76fc44753b7c176a1d2c795d2c29bcfc5c37e6f5b1e4404fb66bb0f70"), looks := false }, kinds := [], alts := [], laidByText := true, laidKinds := [.data, .pinned], laidTests := true, laidLooks := .later }
def FiltAgainUptoCardSaid : Prop := Claim7.holds Tryd.pinned (.plain (OpenSpec.upto filtAgainSpec)) filtAgainUptoCard

/-- THE SECOND FORM's CARD OF 'castellanlaw10.FiltDeep'. -/
def filtDeepUptoCard : Claim7 := { stood := { row := filtDeepUptoRow, standIns := [], harness := (true, "784525d76fc44753b7c176a1d2c795d2c29bcfc5c37e6f5b1e4404fb66bb0f70"), looks := false }, kinds := [], alts := [], laidByText := true, laidKinds := [.data, .pinned], laidTests := true, laidLooks := .later }
def FiltDeepUptoCardSaid : Prop := Claim7.holds Tryd.pinned (.plain (OpenSpec.upto filtDeepSpec)) filtDeepUptoCard
end Rows
end Go.Proofs.YtnlbhmjgeedgpaaDoor
