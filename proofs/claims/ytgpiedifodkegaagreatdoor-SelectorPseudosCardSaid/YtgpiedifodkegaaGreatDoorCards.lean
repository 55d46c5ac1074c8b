/-
  DERIVED. GIVEN WITH THE SEED: THE CARDS: each row of YtgpiedifodkegaaGreatDoorRows.lean that lists a variable, with what it lists TIED to the program's text (the seventh form; the later family's looks); each row that meets fmt, with fmt's text TOLD by the authors' own Lean function (tested against real Go, not proved from fmt's source: count such statements apart). THE CARD IS WHAT COUNTS. Prove the row's statement (the work); the ties are given (YtgpiedifodkegaaGreatDoorTie.lean); close each card by the builder's one call (the guide's Derived/Test/ToyasCard.lean, 'card_holds'). Laid BY PROGRAM, IN A SANDBOX (cutbox-door.mjs). By AI agents, Wed Nov 11 2026. No macro, syntax, notation, axiom, sorry.
-/
import Derived.Test.YtgpiedifodkegaaGreatDoorRows
import GoSem.ClaimSeven
namespace Go.Proofs.YtgpiedifodkegaaGreatDoor
namespace Rows

/-- THE TIED CARD OF 'fleuronlaw6.SelectorBack'. -/
def selectorBackCard : Claim7 := { stood := { row := selectorBackRow, standIns := [], harness := (true, "d0036d5512a72c49b745c0c6c8ca9f9d6f6837c966c9eb1ac8f280244e3c1477"), looks := false }, kinds := [], alts := [], laidByText := true, laidKinds := [.data, .data, .data, .data, .data], laidTests := true, laidLooks := .later }
def SelectorBackCardSaid : Prop := Claim7.holds Tryz.pinned (.plain (OpenSpec.ofChange selectorBackSpec)) selectorBackCard

/-- THE TIED CARD OF 'fleuronlaw6.SelectorWeights'. -/
def selectorWeightsCard : Claim7 := { stood := { row := selectorWeightsRow, standIns := [], harness := (true, "d0036d5512a72c49b745c0c6c8ca9f9d6f6837c966c9eb1ac8f280244e3c1477"), looks := false }, kinds := [], alts := [], laidByText := true, laidKinds := [.data, .data, .data, .data, .data], laidTests := true, laidLooks := .later }
def SelectorWeightsCardSaid : Prop := Claim7.holds Tryz.pinned (.plain (OpenSpec.ofChange selectorWeightsSpec)) selectorWeightsCard

/-- THE TIED CARD OF 'fleuronlaw6.SelectorNests'. -/
def selectorNestsCard : Claim7 := { stood := { row := selectorNestsRow, standIns := [], harness := (true, "d0036d5512a72c49b745c0c6c8ca9f9d6f6837c966c9eb1ac8f280244e3c1477"), looks := false }, kinds := [], alts := [], laidByText := true, laidKinds := [.data, .data, .data, .data, .data], laidTests := true, laidLooks := .later }
def SelectorNestsCardSaid : Prop := Claim7.holds Tryz.pinned (.plain (OpenSpec.ofChange selectorNestsSpec)) selectorNestsCard

/-- THE TIED CARD OF 'fleuronlaw6.SelectorCombs'. -/
def selectorCombsCard : Claim7 := { stood := { row := selectorCombsRow, standIns := [], harness := (true, "d0036d5512a72c49b745c0c6c8ca9f9d6f6837c966c9eb1ac8f280244e3c1477"), looks := false }, kinds := [], alts := [], laidByText := true, laidKinds := [.data, .data, .data, .data, .data], laidTests := true, laidLooks := .later }
def SelectorCombsCardSaid : Prop := Claim7.holds Tryz.pinned (.plain (OpenSpec.ofChange selectorCombsSpec)) selectorCombsCard

/-- THE TIED CARD OF 'fleuronlaw6.SelectorPseudos'. -/
def selectorPseudosCard : Claim7 := { stood := { row := selectorPseudosRow, standIns := [], harness := (true, "d0036d5512a72c49b745c0c6c8ca9f9d6f6837c966c9eb1ac8f280244e3c1477"), looks := false }, kinds := [], alts := [], laidByText := true, laidKinds := [.data, .data, .data, .data, .data], laidTests := true, laidLooks := .later }
def SelectorPseudosCardSaid : Prop := Claim7.holds Tryz.pinned (.plain (OpenSpec.ofChange selectorPseudosSpec)) selectorPseudosCard

/-- THE TIED CARD OF 'fleuronlaw6.SelectorLists'. -/
def selectorListsCard : Claim7 := { stood := { row := selectorListsRow, standIns := [], harness := (true, "d0036d5512a72c49b745c0c6c8ca9f9d6f6837c966c9eb1ac8f280244e3c1477"), looks := false }, kinds := [], alts := [], laidByText := true, laidKinds := [.data, .data, .data, .data, .data], laidTests := true, laidLooks := .later }
def SelectorListsCardSaid : Prop := Claim7.holds Tryz.pinned (.plain (OpenSpec.ofChange selectorListsSpec)) selectorListsCard

/-- THE SECOND FORM's CARD OF 'fleuronlaw6.SelectorBack'. -/
def selectorBackUptoCard : Claim7 := { stood := { row := selectorBackUptoRow, standIns := [], harness := (true, "d0036d5512a72c49b745c0c6c8ca9f9d6f6837c966c9eb1ac8f280244e3c1477"), looks := false }, kinds := [], alts := [], laidByText := true, laidKinds := [.data, .data, .data, .data, .data], laidTests := true, laidLooks := .later }
def SelectorBackUptoCardSaid : Prop := Claim7.holds Tryz.pinned (.plain (OpenSpec.upto selectorBackSpec)) selectorBackUptoCard

/-- THE SECOND FORM's CARD OF 'fleuronlaw6.SelectorWeights'. -/
def selectorWeightsUptoCard : Claim7 := { stood := { row := selectorWeightsUptoRow, standIns := [], harness := (true, "d0036d5512a72c49b745c0c6c8ca9f9d6f6837c966c9eb1ac8f280244e3c1477"), looks := false }, kinds := [], alts := [], laidByText := true, laidKinds := [.data, .data, .data, .data, .data], laidTests := true, laidLooks := .later }
def SelectorWeightsUptoCardSaid : Prop := Claim7.holds Tryz.pinned (.plain (OpenSpec.upto selectorWeightsSpec)) selectorWeightsUptoCard

/-- THE SECOND FORM's CARD OF 'fleuronlaw6.SelectorNests'. -/
def selectorNestsUptoCard : Claim7 := { stood := { row := selectorNestsUptoRow, standIns := [], harness := (true, "d0036d5512a72c49b745c0c6c8ca9f9d6f6837c966c9eb1ac8f280244e3c1477"), looks := false }, kinds := [], alts := [], laidByText := true, laidKinds := [.data, .data, .data, .data, .data], laidTests := true, laidLooks := .later }
def SelectorNestsUptoCardSaid : Prop := Claim7.holds Tryz.pinned (.plain (OpenSpec.upto selectorNestsSpec)) selectorNestsUptoCard

/-- THE SECOND FORM's CARD OF 'fleuronlaw6.SelectorCombs'. -/
def selectorCombsUptoCard : Claim7 := { stood := { row := selectorCombsUptoRow, standIns := [], harness := (true, "d0036d5512a72c49b745c0c6c8ca9f9d6f6837c966c9eb1ac8f280244e3c1477"), looks := false }, kinds := [], alts := [], laidByText := true, laidKinds := [.data, .data, .data, .data, .data], laidTests := true, laidLooks := .later }
def SelectorCombsUptoCardSaid : Prop := Claim7.holds Tryz.pinned (.plain (OpenSpec.upto selectorCombsSpec)) selectorCombsUptoCard

/-- THE SECOND FORM's CARD OF 'fleuronlaw6.SelectorPseudos'. -/
def selectorPseudosUptoCard : Claim7 := { stood := { row := selectorPseudosUptoRow, standIns := [], harness := (true, "d0036d5512a72c49b745c0c6c8ca9f9d6f6837c966c9eb1ac8f280244e3c1477"), looks := false }, kinds := [], alts := [], laidByText := true, laidKinds := [.data, .data, .data, .data, .data], laidTests := true, laidLooks := .later }
def SelectorPseudosUptoCardSaid : Prop := Claim7.holds Tryz.pinned (.plain (OpenSpec.upto selectorPseudosSpec)) selectorPseudosUptoCard

/-- THE SECOND FORM's CARD OF 'fleuronlaw6.SelectorLists'. -/
def selectorListsUptoCard : Claim7 := { stood := { row := selectorListsUptoRow, standIns := [], harness := (true, "d0036d5512a72c49b745c0c6c8ca9f9d6f6837c966c9eb1ac8f280244e3c1477"), looks := false }, kinds := [], alts := [], laidByText := true, laidKinds := [.data, .data, .data, .data, .data], laidTests := true, laidLooks := .later }
def SelectorListsUptoCardSaid : Prop := Claim7.holds Tryz.pinned (.plain (OpenSpec.upto selectorListsSpec)) selectorListsUptoCard
end Rows
end Go.Proofs.YtgpiedifodkegaaGreatDoor
