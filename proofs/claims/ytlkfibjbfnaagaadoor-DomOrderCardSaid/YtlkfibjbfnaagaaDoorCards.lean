/-
  DERIVED. GIVEN WITH THE SEED: THE CARDS: each row of YtlkfibjbfnaagaaDoorRows.lean that lists a variable, with what it lists TIED to the program's text (the seventh form; the later family's looks); each row that meets fmt, with fmt's text TOLD by the authors' own Lean function (tested against real Go, not proved from fmt's source: count such statements apart). THE CARD IS WHAT COUNTS. Prove the row's statement (the work); the ties are given (YtlkfibjbfnaagaaDoorTie.lean); close each card by the builder's one call (the guide's Derived/Test/ToyasCard.lean, 'card_holds'). Laid BY PROGRAM, IN A SANDBOX (cutbox-door.mjs). By AI agents, Wed Nov 11 2026. No macro, syntax, notation, axiom, sorry.
-/
import Derived.Test.YtlkfibjbfnaagaaDoorRows
import GoSem.ClaimSeven
namespace Go.Proofs.YtlkfibjbfnaagaaDoor
namespace Rows

/-- THE TIED CARD OF 'fleuronlaw7.DomTells'. -/
def domTellsCard : Claim7 := { stood := { row := domTellsRow, standIns := [], harness := (true, "44575265280bdc0eea85d316940533019bd12e9b4eaba197c7798f1e8a69df65"), looks := false }, kinds := [], alts := [], laidByText := true, laidKinds := [.data, .pinned], laidTests := true, laidLooks := .later }
def DomTellsCardSaid : Prop := Claim7.holds Tryd.pinned (.plain (OpenSpec.ofChange domTellsSpec)) domTellsCard

/-- THE TIED CARD OF 'fleuronlaw7.DomOrder'. -/
def domOrderCard : Claim7 := { stood := { row := domOrderRow, standIns := [], harness := (true, "44575265280bdc0eea85d316940533019bd12e9b4eaba197c7798f1e8a69df65"), looks := false }, kinds := [], alts := [], laidByText := true, laidKinds := [.data, .pinned], laidTests := true, laidLooks := .later }
def DomOrderCardSaid : Prop := Claim7.holds Tryd.pinned (.plain (OpenSpec.ofChange domOrderSpec)) domOrderCard

/-- THE TIED CARD OF 'fleuronlaw7.DomForms'. -/
def domFormsCard : Claim7 := { stood := { row := domFormsRow, standIns := [], harness := (true, "44575265280bdc0eea85d316940533019bd12e9b4eaba197c7798f1e8a69df65"), looks := false }, kinds := [], alts := [], laidByText := true, laidKinds := [.data, .pinned], laidTests := true, laidLooks := .later }
def DomFormsCardSaid : Prop := Claim7.holds Tryd.pinned (.plain (OpenSpec.ofChange domFormsSpec)) domFormsCard

/-- THE TIED CARD OF 'fleuronlaw7.DomAttrs'. -/
def domAttrsCard : Claim7 := { stood := { row := domAttrsRow, standIns := [], harness := (true, "44575265280bdc0eea85d316940533019bd12e9b4eaba197c7798f1e8a69df65"), looks := false }, kinds := [], alts := [], laidByText := true, laidKinds := [.data, .pinned], laidTests := true, laidLooks := .later }
def DomAttrsCardSaid : Prop := Claim7.holds Tryd.pinned (.plain (OpenSpec.ofChange domAttrsSpec)) domAttrsCard

/-- THE TIED CARD OF 'fleuronlaw7.DomKids'. -/
def domKidsCard : Claim7 := { stood := { row := domKidsRow, standIns := [], harness := (true, "44575265280bdc0eea85d316940533019bd12e9b4eaba197c7798f1e8a69df65"), looks := false }, kinds := [], alts := [], laidByText := true, laidKinds := [.data, .pinned], laidTests := true, laidLooks := .later }
def DomKidsCardSaid : Prop := Claim7.holds Tryd.pinned (.plain (OpenSpec.ofChange domKidsSpec)) domKidsCard

/-- THE SECOND FORM's CARD OF 'fleuronlaw7.DomTells'. -/
def domTellsUptoCard : Claim7 := { stood := { row := domTellsUptoRow, standIns := [], harness := (true, "44575265280bdc0eea85d316940533019bd12e9b4eaba197c7798f1e8a69df65"), looks := false }, kinds := [], alts := [], laidByText := true, laidKinds := [.data, .pinned], laidTests := true, laidLooks := .later }
def DomTellsUptoCardSaid : Prop := Claim7.holds Tryd.pinned (.plain (OpenSpec.upto domTellsSpec)) domTellsUptoCard

/-- THE SECOND FORM's CARD OF 'fleuronlaw7.DomOrder'. -/
def domOrderUptoCard : Claim7 := { stood := { row := domOrderUptoRow, standIns := [], harness := (true, "44575265280bdc0eea85d316940533019bd12e9b4eaba197c7798f1e8a69df65"), looks := false }, kinds := [], alts := [], laidByText := true, laidKinds := [.data, .pinned], laidTests := true, laidLooks := .later }
def DomOrderUptoCardSaid : Prop := Claim7.holds Tryd.pinned (.plain (OpenSpec.upto domOrderSpec)) domOrderUptoCard

/-- THE SECOND FORM's CARD OF 'fleuronlaw7.DomForms'. -/
def domFormsUptoCard : Claim7 := { stood := { row := domFormsUptoRow, standIns := [], harness := (true, "44575265280bdc0eea85d316940533019bd12e9b4eaba197c7798f1e8a69df65"), looks := false }, kinds := [], alts := [], laidByText := true, laidKinds := [.data, .pinned], laidTests := true, laidLooks := .later }
def DomFormsUptoCardSaid : Prop := Claim7.holds Tryd.pinned (.plain (OpenSpec.upto domFormsSpec)) domFormsUptoCard

/-- THE SECOND FORM's CARD OF 'fleuronlaw7.DomAttrs'. -/
def domAttrsUptoCard : Claim7 := { stood := { row := domAttrsUptoRow, standIns := [], harness := (true, "44575265280bdc0eea85d316940533019bd12e9b4eaba197c7798f1e8a69df65"), looks := false }, kinds := [], alts := [], laidByText := true, laidKinds := [.data, .pinned], laidTests := true, laidLooks := .later }
def DomAttrsUptoCardSaid : Prop := Claim7.holds Tryd.pinned (.plain (OpenSpec.upto domAttrsSpec)) domAttrsUptoCard

/-- THE SECOND FORM's CARD OF 'fleuronlaw7.DomKids'. -/
def domKidsUptoCard : Claim7 := { stood := { row := domKidsUptoRow, standIns := [], harness := (true, "44575265280bdc0eea85d316940533019bd12e9b4eaba197c7798f1e8a69df65"), looks := false }, kinds := [], alts := [], laidByText := true, laidKinds := [.data, .pinned], laidTests := true, laidLooks := .later }
def DomKidsUptoCardSaid : Prop := Claim7.holds Tryd.pinned (.plain (OpenSpec.upto domKidsSpec)) domKidsUptoCard
end Rows
end Go.Proofs.YtlkfibjbfnaagaaDoor
