/-
  DERIVED. GIVEN WITH THE SEED: THE CARDS: each row of YtjjlnmjapfcmaaaDoorRows.lean that lists a variable, with what it lists TIED to the program's text (the seventh form; the later family's looks); each row that meets fmt, with fmt's text TOLD by the authors' own Lean function (tested against real Go, not proved from fmt's source: count such statements apart). THE CARD IS WHAT COUNTS. Prove the row's statement (the work); the ties are given (YtjjlnmjapfcmaaaDoorTie.lean); close each card by the builder's one call (the guide's Derived/Test/ToyasCard.lean, 'card_holds'). Laid BY PROGRAM, IN A SANDBOX (cutbox-door.mjs). By AI agents, Wed Nov 11 2026. No macro, syntax, notation, axiom, sorry.
-/
import Derived.Test.YtjjlnmjapfcmaaaDoorRows
import GoSem.ClaimSeven
namespace Go.Proofs.YtjjlnmjapfcmaaaDoor
namespace Rows

/-- THE TIED CARD OF 'fleuronlaw10.DefineReads'. -/
def defineReadsCard : Claim7 := { stood := { row := defineReadsRow, standIns := [], harness := (true, "3395a3b0b8821987b8e8de34744ed976fea6f1b574ce08848006d221ee6c6129"), looks := false }, kinds := [], alts := [], laidByText := true, laidKinds := [.data, .data, .data], laidTests := true, laidLooks := .later }
def DefineReadsCardSaid : Prop := Claim7.holds Tryd.pinned (.plain (OpenSpec.ofChange defineReadsSpec)) defineReadsCard

/-- THE TIED CARD OF 'fleuronlaw10.DefineLast'. -/
def defineLastCard : Claim7 := { stood := { row := defineLastRow, standIns := [], harness := (true, "3395a3b0b8821987b8e8de34744ed976fea6f1b574ce08848006d221ee6c6129"), looks := false }, kinds := [], alts := [], laidByText := true, laidKinds := [.data, .data, .data], laidTests := true, laidLooks := .later }
def DefineLastCardSaid : Prop := Claim7.holds Tryd.pinned (.plain (OpenSpec.ofChange defineLastSpec)) defineLastCard

/-- THE TIED CARD OF 'fleuronlaw10.DefineSystems'. -/
def defineSystemsCard : Claim7 := { stood := { row := defineSystemsRow, standIns := [], harness := (true, "3395a3b0b8821987b8e8de34744ed976fea6f1b574ce08848006d221ee6c6129"), looks := false }, kinds := [], alts := [], laidByText := true, laidKinds := [.data, .data, .data], laidTests := true, laidLooks := .later }
def DefineSystemsCardSaid : Prop := Claim7.holds Tryd.pinned (.plain (OpenSpec.ofChange defineSystemsSpec)) defineSystemsCard

/-- THE TIED CARD OF 'fleuronlaw10.DefineNames'. -/
def defineNamesCard : Claim7 := { stood := { row := defineNamesRow, standIns := [], harness := (true, "3395a3b0b8821987b8e8de34744ed976fea6f1b574ce08848006d221ee6c6129"), looks := false }, kinds := [], alts := [], laidByText := true, laidKinds := [.data, .data, .data], laidTests := true, laidLooks := .later }
def DefineNamesCardSaid : Prop := Claim7.holds Tryd.pinned (.plain (OpenSpec.ofChange defineNamesSpec)) defineNamesCard

/-- THE TIED CARD OF 'fleuronlaw10.DefineRanges'. -/
def defineRangesCard : Claim7 := { stood := { row := defineRangesRow, standIns := [], harness := (true, "3395a3b0b8821987b8e8de34744ed976fea6f1b574ce08848006d221ee6c6129"), looks := false }, kinds := [], alts := [], laidByText := true, laidKinds := [.data, .data, .data], laidTests := true, laidLooks := .later }
def DefineRangesCardSaid : Prop := Claim7.holds Tryd.pinned (.plain (OpenSpec.ofChange defineRangesSpec)) defineRangesCard

/-- THE SECOND FORM's CARD OF 'fleuronlaw10.DefineReads'. -/
def defineReadsUptoCard : Claim7 := { stood := { row := defineReadsUptoRow, standIns := [], harness := (true, "3395a3b0b8821987b8e8de34744ed976fea6f1b574ce08848006d221ee6c6129"), looks := false }, kinds := [], alts := [], laidByText := true, laidKinds := [.data, .data, .data], laidTests := true, laidLooks := .later }
def DefineReadsUptoCardSaid : Prop := Claim7.holds Tryd.pinned (.plain (OpenSpec.upto defineReadsSpec)) defineReadsUptoCard

/-- THE SECOND FORM's CARD OF 'fleuronlaw10.DefineLast'. -/
def defineLastUptoCard : Claim7 := { stood := { row := defineLastUptoRow, standIns := [], harness := (true, "3395a3b0b8821987b8e8de34744ed976fea6f1b574ce08848006d221ee6c6129"), looks := false }, kinds := [], alts := [], laidByText := true, laidKinds := [.data, .data, .data], laidTests := true, laidLooks := .later }
def DefineLastUptoCardSaid : Prop := Claim7.holds Tryd.pinned (.plain (OpenSpec.upto defineLastSpec)) defineLastUptoCard

/-- THE SECOND FORM's CARD OF 'fleuronlaw10.DefineSystems'. -/
def defineSystemsUptoCard : Claim7 := { stood := { row := defineSystemsUptoRow, standIns := [], harness := (true, "3395a3b0b8821987b8e8de34744ed976fea6f1b574ce08848006d221ee6c6129"), looks := false }, kinds := [], alts := [], laidByText := true, laidKinds := [.data, .data, .data], laidTests := true, laidLooks := .later }
def DefineSystemsUptoCardSaid : Prop := Claim7.holds Tryd.pinned (.plain (OpenSpec.upto defineSystemsSpec)) defineSystemsUptoCard

/-- THE SECOND FORM's CARD OF 'fleuronlaw10.DefineNames'. -/
def defineNamesUptoCard : Claim7 := { stood := { row := defineNamesUptoRow, standIns := [], harness := (true, "3395a3b0b8821987b8e8de34744ed976fea6f1b574ce08848006d221ee6c6129"), looks := false }, kinds := [], alts := [], laidByText := true, laidKinds := [.data, .data, .data], laidTests := true, laidLooks := .later }
def DefineNamesUptoCardSaid : Prop := Claim7.holds Tryd.pinned (.plain (OpenSpec.upto defineNamesSpec)) defineNamesUptoCard

/-- THE SECOND FORM's CARD OF 'fleuronlaw10.DefineRanges'. -/
def defineRangesUptoCard : Claim7 := { stood := { row := defineRangesUptoRow, standIns := [], harness := (true, "3395a3b0b8821987b8e8de34744ed976fea6f1b574ce08848006d221ee6c6129"), looks := false }, kinds := [], alts := [], laidByText := true, laidKinds := [.data, .data, .data], laidTests := true, laidLooks := .later }
def DefineRangesUptoCardSaid : Prop := Claim7.holds Tryd.pinned (.plain (OpenSpec.upto defineRangesSpec)) defineRangesUptoCard
end Rows
end Go.Proofs.YtjjlnmjapfcmaaaDoor
