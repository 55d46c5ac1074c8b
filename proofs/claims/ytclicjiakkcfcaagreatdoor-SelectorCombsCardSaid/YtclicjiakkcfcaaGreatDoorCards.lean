/-
  DERIVED. GIVEN WITH THE SEED: THE CARDS: each row of YtclicjiakkcfcaaGreatDoorRows.lean that lists a variable, with what it lists TIED to the program's text (the seventh form; the later family's looks); each row that meets fmt, with fmt's text TOLD by the authors' own Lean function (tested against real Go, not proved from fmt's source: count such statements apart). THE CARD IS WHAT COUNTS. Prove the row's statement (the work); the ties are given (YtclicjiakkcfcaaGreatDoorTie.lean); close each card by the builder's one call (the guide's Derived/Test/ToyasCard.lean, 'card_holds'). Laid BY PROGRAM, IN A SANDBOX (cutbox-door.mjs). By AI agents, Wed Nov 11 2026. No macro, syntax, notation, axiom, sorry.
-/
import Derived.Test.YtclicjiakkcfcaaGreatDoorRows
import GoSem.ClaimSeven
namespace Go.Proofs.YtclicjiakkcfcaaGreatDoor
namespace Rows

/-- THE TIED CARD OF 'fleuronlaw6.SelectorCombs'. -/
def selectorCombsCard : Claim7 := { stood := { row := selectorCombsRow, standIns := [], harness := (true, "b0dfa9918e752a7da940b4a18c25e05d3ab600a5da078201f24ce6dd0e97fea8"), looks := false }, kinds := [], alts := [], laidByText := true, laidKinds := [.data, .data, .data, .data, .data], laidTests := true, laidLooks := .later }
def SelectorCombsCardSaid : Prop := Claim7.holds Tryz.pinned (.plain (OpenSpec.ofChange selectorCombsSpec)) selectorCombsCard

/-- THE TIED CARD OF 'fleuronlaw6.SelectorLists'. -/
def selectorListsCard : Claim7 := { stood := { row := selectorListsRow, standIns := [], harness := (true, "b0dfa9918e752a7da940b4a18c25e05d3ab600a5da078201f24ce6dd0e97fea8"), looks := false }, kinds := [], alts := [], laidByText := true, laidKinds := [.data, .data, .data, .data, .data], laidTests := true, laidLooks := .later }
def SelectorListsCardSaid : Prop := Claim7.holds Tryz.pinned (.plain (OpenSpec.ofChange selectorListsSpec)) selectorListsCard

/-- THE SECOND FORM's CARD OF 'fleuronlaw6.SelectorCombs'. -/
def selectorCombsUptoCard : Claim7 := { stood := { row := selectorCombsUptoRow, standIns := [], harness := (true, "b0dfa9918e752a7da940b4a18c25e05d3ab600a5da078201f24ce6dd0e97fea8"), looks := false }, kinds := [], alts := [], laidByText := true, laidKinds := [.data, .data, .data, .data, .data], laidTests := true, laidLooks := .later }
def SelectorCombsUptoCardSaid : Prop := Claim7.holds Tryz.pinned (.plain (OpenSpec.upto selectorCombsSpec)) selectorCombsUptoCard

/-- THE SECOND FORM's CARD OF 'fleuronlaw6.SelectorLists'. -/
def selectorListsUptoCard : Claim7 := { stood := { row := selectorListsUptoRow, standIns := [], harness := (true, "b0dfa9918e752a7da940b4a18c25e05d3ab600a5da078201f24ce6dd0e97fea8"), looks := false }, kinds := [], alts := [], laidByText := true, laidKinds := [.data, .data, .data, .data, .data], laidTests := true, laidLooks := .later }
def SelectorListsUptoCardSaid : Prop := Claim7.holds Tryz.pinned (.plain (OpenSpec.upto selectorListsSpec)) selectorListsUptoCard
end Rows
end Go.Proofs.YtclicjiakkcfcaaGreatDoor
