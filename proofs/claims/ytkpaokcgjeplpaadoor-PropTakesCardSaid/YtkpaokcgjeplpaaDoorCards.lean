/-
  DERIVED. GIVEN WITH THE SEED: THE CARDS: each row of YtkpaokcgjeplpaaDoorRows.lean that lists a variable, with what it lists TIED to the program's text (the seventh form; the later family's looks); each row that meets fmt, with fmt's text TOLD by the authors' own Lean function (tested against real Go, not proved from fmt's source: count such statements apart). THE CARD IS WHAT COUNTS. Prove the row's statement (the work); the ties are given (YtkpaokcgjeplpaaDoorTie.lean); close each card by the builder's one call (the guide's Derived/Test/ToyasCard.lean, 'card_holds'). Laid BY PROGRAM, IN A SANDBOX (cutbox-door.mjs). By AI agents, Wed Nov 11 2026. No macro, syntax, notation, axiom, sorry.
-/
import Derived.Test.YtkpaokcgjeplpaaDoorRows
import GoSem.ClaimSeven
namespace Go.Proofs.YtkpaokcgjeplpaaDoor
namespace Rows

/-- THE TIED CARD OF 'fleuronlaw12.PropTakes'. -/
def propTakesCard : Claim7 := { stood := { row := propTakesRow, standIns := [], harness := (true, "5e3d875b2b4a32a4d74ca804ce6a0c5cc54fb4ff77c31755b1660cee62360390"), looks := false }, kinds := [], alts := [], laidByText := true, laidKinds := [.data, .data, .data], laidTests := true, laidLooks := .later }
def PropTakesCardSaid : Prop := Claim7.holds Tryd.pinned (.plain (OpenSpec.ofChange propTakesSpec)) propTakesCard

/-- THE TIED CARD OF 'fleuronlaw12.PropWides'. -/
def propWidesCard : Claim7 := { stood := { row := propWidesRow, standIns := [], harness := (true, "5e3d875b2b4a32a4d74ca804ce6a0c5cc54fb4ff77c31755b1660cee62360390"), looks := false }, kinds := [], alts := [], laidByText := true, laidKinds := [.data, .data, .data], laidTests := true, laidLooks := .later }
def PropWidesCardSaid : Prop := Claim7.holds Tryd.pinned (.plain (OpenSpec.ofChange propWidesSpec)) propWidesCard

/-- THE TIED CARD OF 'fleuronlaw12.PropQuotes'. -/
def propQuotesCard : Claim7 := { stood := { row := propQuotesRow, standIns := [], harness := (true, "5e3d875b2b4a32a4d74ca804ce6a0c5cc54fb4ff77c31755b1660cee62360390"), looks := false }, kinds := [], alts := [], laidByText := true, laidKinds := [.data, .data, .data], laidTests := true, laidLooks := .later }
def PropQuotesCardSaid : Prop := Claim7.holds Tryd.pinned (.plain (OpenSpec.ofChange propQuotesSpec)) propQuotesCard

/-- THE SECOND FORM's CARD OF 'fleuronlaw12.PropTakes'. -/
def propTakesUptoCard : Claim7 := { stood := { row := propTakesUptoRow, standIns := [], harness := (true, "5e3d875b2b4a32a4d74ca804ce6a0c5cc54fb4ff77c31755b1660cee62360390"), looks := false }, kinds := [], alts := [], laidByText := true, laidKinds := [.data, .data, .data], laidTests := true, laidLooks := .later }
def PropTakesUptoCardSaid : Prop := Claim7.holds Tryd.pinned (.plain (OpenSpec.upto propTakesSpec)) propTakesUptoCard

/-- THE SECOND FORM's CARD OF 'fleuronlaw12.PropWides'. -/
def propWidesUptoCard : Claim7 := { stood := { row := propWidesUptoRow, standIns := [], harness := (true, "5e3d875b2b4a32a4d74ca804ce6a0c5cc54fb4ff77c31755b1660cee62360390"), looks := false }, kinds := [], alts := [], laidByText := true, laidKinds := [.data, .data, .data], laidTests := true, laidLooks := .later }
def PropWidesUptoCardSaid : Prop := Claim7.holds Tryd.pinned (.plain (OpenSpec.upto propWidesSpec)) propWidesUptoCard

/-- THE SECOND FORM's CARD OF 'fleuronlaw12.PropQuotes'. -/
def propQuotesUptoCard : Claim7 := { stood := { row := propQuotesUptoRow, standIns := [], harness := (true, "5e3d875b2b4a32a4d74ca804ce6a0c5cc54fb4ff77c31755b1660cee62360390"), looks := false }, kinds := [], alts := [], laidByText := true, laidKinds := [.data, .data, .data], laidTests := true, laidLooks := .later }
def PropQuotesUptoCardSaid : Prop := Claim7.holds Tryd.pinned (.plain (OpenSpec.upto propQuotesSpec)) propQuotesUptoCard
end Rows
end Go.Proofs.YtkpaokcgjeplpaaDoor
