/-
  No cell of these rows narrows 'for every input' (looked for: loops, veiled, ifaces, maps, wideKeys, modest, calm, conditions, laid).
  DERIVED. THE GIVEN ROWS OF THIS SEAT. 9 by the template 'for every input the law returns true; each argument reads behind the call as it read before'; 0 by the template 'total and deterministic' (their statements: YtdfbkpmmmldoiaaTotals.lean).
  GIVEN WITH THE SEED: the statements are not yours to turn. If you find one false, say at which input.
  Laid BY PROGRAM, IN A SANDBOX (cutbox-rows.mjs): the forced cells as the released guide's own fill.sh prints them over the translation 6ec1bb41b6733d78… (all of the seat's roots in one cut). By AI agents, Wed Nov 11 2026. No macro, syntax, notation, axiom, sorry.
-/
import Derived.Test.YtdfbkpmmmldoiaaChecked
import GoSem.Claim
import GoSem.ClaimJoined
import GoSem.ClaimMapViews
import Derived.JoinedTies
import Derived.KernelRfl
namespace Go.Proofs.Ytdfbkpmmmldoiaa
/- THE CELL 'sum', in the pinned program and in every row, IS THE sha256 OF THE DUMP (.gsa) THAT YtdfbkpmmmldoiaaProg.lean LOADS. Nothing in Lean hashes anything: it is a label: what it is worth is what the hold of that sum in a sandbox is worth. -/
noncomputable def Try.pinned : Pinned := { name := "ytdfbkpmmmldoiaa", sum := "6ec1bb41b6733d7866adcf465a812938378197402b0f939e6d9c41626b68ceb5", checked := Try.checked }
namespace Rows
def none {H : Type} : Left H := { results := [], args := [] }

/-- 'fleuronlaw2.TokenTells': WHATEVER THE INPUT: true; the input reads as it did. -/
def tokenTellsSpec : ChangeSpec := { name := "tokenTells", fn := fun _ => fun
  | [d1, d2] => { results := [.lit (.bool true)], args := [d1, d2] }
  | _ => none }
def tokenTellsRow : OpenClaim := { program := "ytdfbkpmmmldoiaa", sum := "6ec1bb41b6733d7866adcf465a812938378197402b0f939e6d9c41626b68ceb5", func := "fleuron/fleuronlaw2.TokenTells", spec := "tokenTells", apart := false }
def TokenTellsSaid : Prop := tokenTellsRow.holds Try.pinned (OpenSpec.ofChange tokenTellsSpec)

/-- ITS FALSE NEIGHBOUR: 'it returns false'. Refute it at one input. -/
def tokenTellsWrong : ChangeSpec := { name := "tokenTells", fn := fun _ => fun
  | [d1, d2] => { results := [.lit (.bool false)], args := [d1, d2] }
  | _ => none }
def TokenTellsWrongFalsely : Prop := tokenTellsRow.holds Try.pinned (OpenSpec.ofChange tokenTellsWrong)

/-- 'fleuronlaw2.TokenJoins': WHATEVER THE INPUT: true; the input reads as it did. -/
def tokenJoinsSpec : ChangeSpec := { name := "tokenJoins", fn := fun _ => fun
  | [d1, d2] => { results := [.lit (.bool true)], args := [d1, d2] }
  | _ => none }
def tokenJoinsRow : OpenClaim := { program := "ytdfbkpmmmldoiaa", sum := "6ec1bb41b6733d7866adcf465a812938378197402b0f939e6d9c41626b68ceb5", func := "fleuron/fleuronlaw2.TokenJoins", spec := "tokenJoins", apart := false }
def TokenJoinsSaid : Prop := tokenJoinsRow.holds Try.pinned (OpenSpec.ofChange tokenJoinsSpec)

/-- ITS FALSE NEIGHBOUR: 'it returns false'. Refute it at one input. -/
def tokenJoinsWrong : ChangeSpec := { name := "tokenJoins", fn := fun _ => fun
  | [d1, d2] => { results := [.lit (.bool false)], args := [d1, d2] }
  | _ => none }
def TokenJoinsWrongFalsely : Prop := tokenJoinsRow.holds Try.pinned (OpenSpec.ofChange tokenJoinsWrong)

/-- 'fleuronlaw2.TokenNames': WHATEVER THE INPUT: true; the input reads as it did. -/
def tokenNamesSpec : ChangeSpec := { name := "tokenNames", fn := fun _ => fun
  | [d1, d2] => { results := [.lit (.bool true)], args := [d1, d2] }
  | _ => none }
def tokenNamesRow : OpenClaim := { program := "ytdfbkpmmmldoiaa", sum := "6ec1bb41b6733d7866adcf465a812938378197402b0f939e6d9c41626b68ceb5", func := "fleuron/fleuronlaw2.TokenNames", spec := "tokenNames", apart := false }
def TokenNamesSaid : Prop := tokenNamesRow.holds Try.pinned (OpenSpec.ofChange tokenNamesSpec)

/-- ITS FALSE NEIGHBOUR: 'it returns false'. Refute it at one input. -/
def tokenNamesWrong : ChangeSpec := { name := "tokenNames", fn := fun _ => fun
  | [d1, d2] => { results := [.lit (.bool false)], args := [d1, d2] }
  | _ => none }
def TokenNamesWrongFalsely : Prop := tokenNamesRow.holds Try.pinned (OpenSpec.ofChange tokenNamesWrong)

/-- 'fleuronlaw2.TokenNumbers': WHATEVER THE INPUT: true; the input reads as it did. -/
def tokenNumbersSpec : ChangeSpec := { name := "tokenNumbers", fn := fun _ => fun
  | [d1, d2, d3] => { results := [.lit (.bool true)], args := [d1, d2, d3] }
  | _ => none }
def tokenNumbersRow : OpenClaim := { program := "ytdfbkpmmmldoiaa", sum := "6ec1bb41b6733d7866adcf465a812938378197402b0f939e6d9c41626b68ceb5", func := "fleuron/fleuronlaw2.TokenNumbers", spec := "tokenNumbers", apart := false }
def TokenNumbersSaid : Prop := tokenNumbersRow.holds Try.pinned (OpenSpec.ofChange tokenNumbersSpec)

/-- ITS FALSE NEIGHBOUR: 'it returns false'. Refute it at one input. -/
def tokenNumbersWrong : ChangeSpec := { name := "tokenNumbers", fn := fun _ => fun
  | [d1, d2, d3] => { results := [.lit (.bool false)], args := [d1, d2, d3] }
  | _ => none }
def TokenNumbersWrongFalsely : Prop := tokenNumbersRow.holds Try.pinned (OpenSpec.ofChange tokenNumbersWrong)

/-- 'fleuronlaw2.TokenStrings': WHATEVER THE INPUT: true; the input reads as it did. -/
def tokenStringsSpec : ChangeSpec := { name := "tokenStrings", fn := fun _ => fun
  | [d1, d2, d3] => { results := [.lit (.bool true)], args := [d1, d2, d3] }
  | _ => none }
def tokenStringsRow : OpenClaim := { program := "ytdfbkpmmmldoiaa", sum := "6ec1bb41b6733d7866adcf465a812938378197402b0f939e6d9c41626b68ceb5", func := "fleuron/fleuronlaw2.TokenStrings", spec := "tokenStrings", apart := false }
def TokenStringsSaid : Prop := tokenStringsRow.holds Try.pinned (OpenSpec.ofChange tokenStringsSpec)

/-- ITS FALSE NEIGHBOUR: 'it returns false'. Refute it at one input. -/
def tokenStringsWrong : ChangeSpec := { name := "tokenStrings", fn := fun _ => fun
  | [d1, d2, d3] => { results := [.lit (.bool false)], args := [d1, d2, d3] }
  | _ => none }
def TokenStringsWrongFalsely : Prop := tokenStringsRow.holds Try.pinned (OpenSpec.ofChange tokenStringsWrong)

/-- 'fleuronlaw2.TokenURLs': WHATEVER THE INPUT: true; the input reads as it did. -/
def tokenURLsSpec : ChangeSpec := { name := "tokenURLs", fn := fun _ => fun
  | [d1, d2, d3] => { results := [.lit (.bool true)], args := [d1, d2, d3] }
  | _ => none }
def tokenURLsRow : OpenClaim := { program := "ytdfbkpmmmldoiaa", sum := "6ec1bb41b6733d7866adcf465a812938378197402b0f939e6d9c41626b68ceb5", func := "fleuron/fleuronlaw2.TokenURLs", spec := "tokenURLs", apart := false }
def TokenURLsSaid : Prop := tokenURLsRow.holds Try.pinned (OpenSpec.ofChange tokenURLsSpec)

/-- ITS FALSE NEIGHBOUR: 'it returns false'. Refute it at one input. -/
def tokenURLsWrong : ChangeSpec := { name := "tokenURLs", fn := fun _ => fun
  | [d1, d2, d3] => { results := [.lit (.bool false)], args := [d1, d2, d3] }
  | _ => none }
def TokenURLsWrongFalsely : Prop := tokenURLsRow.holds Try.pinned (OpenSpec.ofChange tokenURLsWrong)

/-- 'fleuronlaw2.TokenComments': WHATEVER THE INPUT: true; the input reads as it did. -/
def tokenCommentsSpec : ChangeSpec := { name := "tokenComments", fn := fun _ => fun
  | [d1, d2] => { results := [.lit (.bool true)], args := [d1, d2] }
  | _ => none }
def tokenCommentsRow : OpenClaim := { program := "ytdfbkpmmmldoiaa", sum := "6ec1bb41b6733d7866adcf465a812938378197402b0f939e6d9c41626b68ceb5", func := "fleuron/fleuronlaw2.TokenComments", spec := "tokenComments", apart := false }
def TokenCommentsSaid : Prop := tokenCommentsRow.holds Try.pinned (OpenSpec.ofChange tokenCommentsSpec)

/-- ITS FALSE NEIGHBOUR: 'it returns false'. Refute it at one input. -/
def tokenCommentsWrong : ChangeSpec := { name := "tokenComments", fn := fun _ => fun
  | [d1, d2] => { results := [.lit (.bool false)], args := [d1, d2] }
  | _ => none }
def TokenCommentsWrongFalsely : Prop := tokenCommentsRow.holds Try.pinned (OpenSpec.ofChange tokenCommentsWrong)

/-- 'fleuronlaw2.TokenSigns': WHATEVER THE INPUT: true; the input reads as it did. -/
def tokenSignsSpec : ChangeSpec := { name := "tokenSigns", fn := fun _ => fun
  | [d] => { results := [.lit (.bool true)], args := [d] }
  | _ => none }
def tokenSignsRow : OpenClaim := { program := "ytdfbkpmmmldoiaa", sum := "6ec1bb41b6733d7866adcf465a812938378197402b0f939e6d9c41626b68ceb5", func := "fleuron/fleuronlaw2.TokenSigns", spec := "tokenSigns", apart := false }
def TokenSignsSaid : Prop := tokenSignsRow.holds Try.pinned (OpenSpec.ofChange tokenSignsSpec)

/-- ITS FALSE NEIGHBOUR: 'it returns false'. Refute it at one input. -/
def tokenSignsWrong : ChangeSpec := { name := "tokenSigns", fn := fun _ => fun
  | [d] => { results := [.lit (.bool false)], args := [d] }
  | _ => none }
def TokenSignsWrongFalsely : Prop := tokenSignsRow.holds Try.pinned (OpenSpec.ofChange tokenSignsWrong)

/-- 'fleuronlaw2.TokenHashes': WHATEVER THE INPUT: true; the input reads as it did. -/
def tokenHashesSpec : ChangeSpec := { name := "tokenHashes", fn := fun _ => fun
  | [d] => { results := [.lit (.bool true)], args := [d] }
  | _ => none }
def tokenHashesRow : OpenClaim := { program := "ytdfbkpmmmldoiaa", sum := "6ec1bb41b6733d7866adcf465a812938378197402b0f939e6d9c41626b68ceb5", func := "fleuron/fleuronlaw2.TokenHashes", spec := "tokenHashes", apart := false }
def TokenHashesSaid : Prop := tokenHashesRow.holds Try.pinned (OpenSpec.ofChange tokenHashesSpec)

/-- ITS FALSE NEIGHBOUR: 'it returns false'. Refute it at one input. -/
def tokenHashesWrong : ChangeSpec := { name := "tokenHashes", fn := fun _ => fun
  | [d] => { results := [.lit (.bool false)], args := [d] }
  | _ => none }
def TokenHashesWrongFalsely : Prop := tokenHashesRow.holds Try.pinned (OpenSpec.ofChange tokenHashesWrong)

/- THE SECOND FORM. 'bulk': how many values and letters a reading holds, each counted each time it is reached (what is shared counts as often as it is met; a slice's spare places count too). A statement '..UptoSaid' is the law's where the arguments, and the package variables that the reading takes, are together of bulk at most 1048576: NARROWER than '..Said'. Prove '..Said' where nothing that the law and all that it calls make is longer than what came in: it says more and counts as full. Else prove '..UptoSaid'. A law counts once. -/
mutual
def uptoBulk {H : Type} : DataW H → Nat
  | .lit (.string bytes) => bytes.length + 1
  | .lit _ => 1
  | .nil => 1
  | .ptr d => uptoBulk d + 1
  | .slice elems spare => uptoBulkAll elems + uptoBulkAll spare + 1
  | .agg parts => uptoBulkAll parts + 1
  | .iface _ d => uptoBulk d + 1
  | .map entries => uptoBulkEntries entries + 1
  | .held _ => 1
def uptoBulkAll {H : Type} : List (DataW H) → Nat
  | [] => 0
  | d :: r => uptoBulk d + uptoBulkAll r
def uptoBulkEntries {H : Type} : List (Lit × DataW H) → Nat
  | [] => 0
  | x :: r => uptoBulkEntry x + uptoBulkEntries r
def uptoBulkEntry {H : Type} : Lit × DataW H → Nat
  | (.string bytes, d) => bytes.length + uptoBulk d + 1
  | (_, d) => uptoBulk d + 1
 end
def uptoSmall : (H : Type) → List (DataW H) → Bool := fun _ ds => decide (uptoBulkAll ds ≤ 1048576)
def OpenSpec.upto (s : _root_.Go.ChangeSpec) : _root_.Go.OpenSpec := { _root_.Go.OpenSpec.ofChange s with cond := some uptoSmall }

/-- 'fleuronlaw2.TokenTells', WHERE WHAT IT READS IS OF BULK AT MOST 1048576: true; the input reads as it did. -/
def tokenTellsUptoRow : OpenClaim := { program := "ytdfbkpmmmldoiaa", sum := "6ec1bb41b6733d7866adcf465a812938378197402b0f939e6d9c41626b68ceb5", func := "fleuron/fleuronlaw2.TokenTells", spec := "tokenTells", apart := false, narrowed := true }
def TokenTellsUptoSaid : Prop := tokenTellsUptoRow.holds Try.pinned (OpenSpec.upto tokenTellsSpec)

/-- 'fleuronlaw2.TokenJoins', WHERE WHAT IT READS IS OF BULK AT MOST 1048576: true; the input reads as it did. -/
def tokenJoinsUptoRow : OpenClaim := { program := "ytdfbkpmmmldoiaa", sum := "6ec1bb41b6733d7866adcf465a812938378197402b0f939e6d9c41626b68ceb5", func := "fleuron/fleuronlaw2.TokenJoins", spec := "tokenJoins", apart := false, narrowed := true }
def TokenJoinsUptoSaid : Prop := tokenJoinsUptoRow.holds Try.pinned (OpenSpec.upto tokenJoinsSpec)

/-- 'fleuronlaw2.TokenNames', WHERE WHAT IT READS IS OF BULK AT MOST 1048576: true; the input reads as it did. -/
def tokenNamesUptoRow : OpenClaim := { program := "ytdfbkpmmmldoiaa", sum := "6ec1bb41b6733d7866adcf465a812938378197402b0f939e6d9c41626b68ceb5", func := "fleuron/fleuronlaw2.TokenNames", spec := "tokenNames", apart := false, narrowed := true }
def TokenNamesUptoSaid : Prop := tokenNamesUptoRow.holds Try.pinned (OpenSpec.upto tokenNamesSpec)

/-- 'fleuronlaw2.TokenNumbers', WHERE WHAT IT READS IS OF BULK AT MOST 1048576: true; the input reads as it did. -/
def tokenNumbersUptoRow : OpenClaim := { program := "ytdfbkpmmmldoiaa", sum := "6ec1bb41b6733d7866adcf465a812938378197402b0f939e6d9c41626b68ceb5", func := "fleuron/fleuronlaw2.TokenNumbers", spec := "tokenNumbers", apart := false, narrowed := true }
def TokenNumbersUptoSaid : Prop := tokenNumbersUptoRow.holds Try.pinned (OpenSpec.upto tokenNumbersSpec)

/-- 'fleuronlaw2.TokenStrings', WHERE WHAT IT READS IS OF BULK AT MOST 1048576: true; the input reads as it did. -/
def tokenStringsUptoRow : OpenClaim := { program := "ytdfbkpmmmldoiaa", sum := "6ec1bb41b6733d7866adcf465a812938378197402b0f939e6d9c41626b68ceb5", func := "fleuron/fleuronlaw2.TokenStrings", spec := "tokenStrings", apart := false, narrowed := true }
def TokenStringsUptoSaid : Prop := tokenStringsUptoRow.holds Try.pinned (OpenSpec.upto tokenStringsSpec)

/-- 'fleuronlaw2.TokenURLs', WHERE WHAT IT READS IS OF BULK AT MOST 1048576: true; the input reads as it did. -/
def tokenURLsUptoRow : OpenClaim := { program := "ytdfbkpmmmldoiaa", sum := "6ec1bb41b6733d7866adcf465a812938378197402b0f939e6d9c41626b68ceb5", func := "fleuron/fleuronlaw2.TokenURLs", spec := "tokenURLs", apart := false, narrowed := true }
def TokenURLsUptoSaid : Prop := tokenURLsUptoRow.holds Try.pinned (OpenSpec.upto tokenURLsSpec)

/-- 'fleuronlaw2.TokenComments', WHERE WHAT IT READS IS OF BULK AT MOST 1048576: true; the input reads as it did. -/
def tokenCommentsUptoRow : OpenClaim := { program := "ytdfbkpmmmldoiaa", sum := "6ec1bb41b6733d7866adcf465a812938378197402b0f939e6d9c41626b68ceb5", func := "fleuron/fleuronlaw2.TokenComments", spec := "tokenComments", apart := false, narrowed := true }
def TokenCommentsUptoSaid : Prop := tokenCommentsUptoRow.holds Try.pinned (OpenSpec.upto tokenCommentsSpec)

/-- 'fleuronlaw2.TokenSigns', WHERE WHAT IT READS IS OF BULK AT MOST 1048576: true; the input reads as it did. -/
def tokenSignsUptoRow : OpenClaim := { program := "ytdfbkpmmmldoiaa", sum := "6ec1bb41b6733d7866adcf465a812938378197402b0f939e6d9c41626b68ceb5", func := "fleuron/fleuronlaw2.TokenSigns", spec := "tokenSigns", apart := false, narrowed := true }
def TokenSignsUptoSaid : Prop := tokenSignsUptoRow.holds Try.pinned (OpenSpec.upto tokenSignsSpec)

/-- 'fleuronlaw2.TokenHashes', WHERE WHAT IT READS IS OF BULK AT MOST 1048576: true; the input reads as it did. -/
def tokenHashesUptoRow : OpenClaim := { program := "ytdfbkpmmmldoiaa", sum := "6ec1bb41b6733d7866adcf465a812938378197402b0f939e6d9c41626b68ceb5", func := "fleuron/fleuronlaw2.TokenHashes", spec := "tokenHashes", apart := false, narrowed := true }
def TokenHashesUptoSaid : Prop := tokenHashesUptoRow.holds Try.pinned (OpenSpec.upto tokenHashesSpec)

end Rows
end Go.Proofs.Ytdfbkpmmmldoiaa
