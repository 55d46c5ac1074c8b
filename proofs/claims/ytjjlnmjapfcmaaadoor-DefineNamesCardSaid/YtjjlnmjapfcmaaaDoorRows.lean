/-
  NARROWER THAN 'FOR EVERY INPUT', by the rows' own cells (each row's printed sentence says how): DefineReads: laid · DefineLast: laid · DefineSystems: laid · DefineNames: laid · DefineRanges: laid.
  DERIVED. THE GIVEN ROWS OF THIS SEAT. 5 by the template 'for every input the law returns true; each argument reads behind the call as it read before'; 0 by the template 'total and deterministic' (their statements: YtjjlnmjapfcmaaaDoorTotals.lean).
  GIVEN WITH THE SEED: the statements are not yours to turn. If you find one false, say at which input.
  Laid BY PROGRAM, IN A SANDBOX (cutbox-rows.mjs): the forced cells as the released guide's own fill.sh prints them over the translation 62c1bc95233493a1… (all of the seat's roots in one cut). By AI agents, Wed Nov 11 2026. No macro, syntax, notation, axiom, sorry.
-/
import Derived.Test.YtjjlnmjapfcmaaaDoorChecked
import GoSem.Claim
import GoSem.ClaimJoined
import GoSem.ClaimMapViews
import Derived.JoinedTies
import Derived.KernelRfl
namespace Go.Proofs.YtjjlnmjapfcmaaaDoor
/- THE CELL 'sum', in the pinned program and in every row, IS THE sha256 OF THE DUMP (.gsa) THAT YtjjlnmjapfcmaaaDoorProg.lean LOADS. Nothing in Lean hashes anything: it is a label: what it is worth is what the hold of that sum in a sandbox is worth. -/
noncomputable def Tryd.pinned : Pinned := { name := "ytjjlnmjapfcmaaadoor", sum := "62c1bc95233493a110984368656af9591b04c3bf4cc7e7dd5085b57b622c89b7", checked := Tryd.checked }
namespace Rows
def none {H : Type} : Left H := { results := [], args := [] }

/- WHAT THE LISTED PACKAGE-LEVEL VARIABLES READ AS WHEN THE CALL BEGINS. Each datum BY PROGRAM (the guide's laid-datum.mjs) off the statement by which the dump's own 'gosem.cut.vars' lays the variable. In a bare row this is a premise. The card (YtjjlnmjapfcmaaaDoorCards.lean) ties it to the program's text. -/
def laid_fleuron_define_names {H : Type} : DataW H := .agg [.agg [.lit (.string [110, 111, 110, 101]), .lit (.int .i64 1)], .agg [.lit (.string [105, 110, 105, 116, 105, 97, 108]), .lit (.int .i64 1)], .agg [.lit (.string [105, 110, 104, 101, 114, 105, 116]), .lit (.int .i64 1)], .agg [.lit (.string [117, 110, 115, 101, 116]), .lit (.int .i64 1)], .agg [.lit (.string [100, 101, 102, 97, 117, 108, 116]), .lit (.int .i64 1)], .agg [.lit (.string [100, 101, 99, 105, 109, 97, 108]), .lit (.int .i64 2)], .agg [.lit (.string [100, 105, 115, 99]), .lit (.int .i64 2)], .agg [.lit (.string [115, 113, 117, 97, 114, 101]), .lit (.int .i64 2)], .agg [.lit (.string [99, 105, 114, 99, 108, 101]), .lit (.int .i64 2)], .agg [.lit (.string [100, 101, 99, 105, 109, 97, 108, 45, 108, 101, 97, 100, 105, 110, 103, 45, 122, 101, 114, 111]), .lit (.int .i64 3)], .agg [.lit (.string [108, 111, 119, 101, 114, 45, 97, 108, 112, 104, 97]), .lit (.int .i64 3)], .agg [.lit (.string [117, 112, 112, 101, 114, 45, 97, 108, 112, 104, 97]), .lit (.int .i64 3)], .agg [.lit (.string [108, 111, 119, 101, 114, 45, 114, 111, 109, 97, 110]), .lit (.int .i64 3)], .agg [.lit (.string [117, 112, 112, 101, 114, 45, 114, 111, 109, 97, 110]), .lit (.int .i64 3)], .agg [.lit (.string [108, 111, 119, 101, 114, 45, 103, 114, 101, 101, 107]), .lit (.int .i64 3)]]
def laid_fleuron_define_alone {H : Type} : DataW H := .agg [.lit (.string [99, 121, 99, 108, 105, 99]), .lit (.string [110, 117, 109, 101, 114, 105, 99]), .lit (.string [97, 108, 112, 104, 97, 98, 101, 116, 105, 99]), .lit (.string [115, 121, 109, 98, 111, 108, 105, 99]), .lit (.string [97, 100, 100, 105, 116, 105, 118, 101]), .lit (.string [102, 105, 120, 101, 100])]
def laid_fleuron_define_told {H : Type} : DataW H := .agg [.lit (.string [110, 101, 103, 97, 116, 105, 118, 101]), .lit (.string [112, 114, 101, 102, 105, 120]), .lit (.string [115, 117, 102, 102, 105, 120]), .lit (.string [114, 97, 110, 103, 101]), .lit (.string [112, 97, 100]), .lit (.string [102, 97, 108, 108, 98, 97, 99, 107])]

/-- 'fleuronlaw10.DefineReads': WHATEVER THE INPUT: true; the input reads as it did. -/
def defineReadsSpec : ChangeSpec := { name := "defineReads", fn := fun _ => fun
  | [d1, d2] => { results := [.lit (.bool true)], args := [d1, d2] }
  | _ => none }
def defineReadsRow : OpenClaim := { program := "ytjjlnmjapfcmaaadoor", sum := "62c1bc95233493a110984368656af9591b04c3bf4cc7e7dd5085b57b622c89b7", func := "fleuron/fleuronlaw10.DefineReads", spec := "defineReads", recurses := true, named := ["fleuron/define.names", "fleuron/define.alone", "fleuron/define.told"], apart := false, laid := [("fleuron/define.names", laid_fleuron_define_names), ("fleuron/define.alone", laid_fleuron_define_alone), ("fleuron/define.told", laid_fleuron_define_told)] }
def DefineReadsSaid : Prop := defineReadsRow.holds Tryd.pinned (OpenSpec.ofChange defineReadsSpec)

/-- ITS FALSE NEIGHBOUR: 'it returns false'. Refute it at one input. -/
def defineReadsWrong : ChangeSpec := { name := "defineReads", fn := fun _ => fun
  | [d1, d2] => { results := [.lit (.bool false)], args := [d1, d2] }
  | _ => none }
def DefineReadsWrongFalsely : Prop := defineReadsRow.holds Tryd.pinned (OpenSpec.ofChange defineReadsWrong)

/-- 'fleuronlaw10.DefineLast': WHATEVER THE INPUT: true; the input reads as it did. -/
def defineLastSpec : ChangeSpec := { name := "defineLast", fn := fun _ => fun
  | [d] => { results := [.lit (.bool true)], args := [d] }
  | _ => none }
def defineLastRow : OpenClaim := { program := "ytjjlnmjapfcmaaadoor", sum := "62c1bc95233493a110984368656af9591b04c3bf4cc7e7dd5085b57b622c89b7", func := "fleuron/fleuronlaw10.DefineLast", spec := "defineLast", recurses := true, named := ["fleuron/define.names", "fleuron/define.alone", "fleuron/define.told"], apart := false, laid := [("fleuron/define.names", laid_fleuron_define_names), ("fleuron/define.alone", laid_fleuron_define_alone), ("fleuron/define.told", laid_fleuron_define_told)] }
def DefineLastSaid : Prop := defineLastRow.holds Tryd.pinned (OpenSpec.ofChange defineLastSpec)

/-- ITS FALSE NEIGHBOUR: 'it returns false'. Refute it at one input. -/
def defineLastWrong : ChangeSpec := { name := "defineLast", fn := fun _ => fun
  | [d] => { results := [.lit (.bool false)], args := [d] }
  | _ => none }
def DefineLastWrongFalsely : Prop := defineLastRow.holds Tryd.pinned (OpenSpec.ofChange defineLastWrong)

/-- 'fleuronlaw10.DefineSystems': WHATEVER THE INPUT: true; the input reads as it did. -/
def defineSystemsSpec : ChangeSpec := { name := "defineSystems", fn := fun _ => fun
  | [d1, d2, d3] => { results := [.lit (.bool true)], args := [d1, d2, d3] }
  | _ => none }
def defineSystemsRow : OpenClaim := { program := "ytjjlnmjapfcmaaadoor", sum := "62c1bc95233493a110984368656af9591b04c3bf4cc7e7dd5085b57b622c89b7", func := "fleuron/fleuronlaw10.DefineSystems", spec := "defineSystems", recurses := true, named := ["fleuron/define.names", "fleuron/define.alone", "fleuron/define.told"], apart := false, laid := [("fleuron/define.names", laid_fleuron_define_names), ("fleuron/define.alone", laid_fleuron_define_alone), ("fleuron/define.told", laid_fleuron_define_told)] }
def DefineSystemsSaid : Prop := defineSystemsRow.holds Tryd.pinned (OpenSpec.ofChange defineSystemsSpec)

/-- ITS FALSE NEIGHBOUR: 'it returns false'. Refute it at one input. -/
def defineSystemsWrong : ChangeSpec := { name := "defineSystems", fn := fun _ => fun
  | [d1, d2, d3] => { results := [.lit (.bool false)], args := [d1, d2, d3] }
  | _ => none }
def DefineSystemsWrongFalsely : Prop := defineSystemsRow.holds Tryd.pinned (OpenSpec.ofChange defineSystemsWrong)

/-- 'fleuronlaw10.DefineNames': WHATEVER THE INPUT: true; the input reads as it did. -/
def defineNamesSpec : ChangeSpec := { name := "defineNames", fn := fun _ => fun
  | [d1, d2] => { results := [.lit (.bool true)], args := [d1, d2] }
  | _ => none }
def defineNamesRow : OpenClaim := { program := "ytjjlnmjapfcmaaadoor", sum := "62c1bc95233493a110984368656af9591b04c3bf4cc7e7dd5085b57b622c89b7", func := "fleuron/fleuronlaw10.DefineNames", spec := "defineNames", recurses := true, named := ["fleuron/define.names", "fleuron/define.alone", "fleuron/define.told"], apart := false, laid := [("fleuron/define.names", laid_fleuron_define_names), ("fleuron/define.alone", laid_fleuron_define_alone), ("fleuron/define.told", laid_fleuron_define_told)] }
def DefineNamesSaid : Prop := defineNamesRow.holds Tryd.pinned (OpenSpec.ofChange defineNamesSpec)

/-- ITS FALSE NEIGHBOUR: 'it returns false'. Refute it at one input. -/
def defineNamesWrong : ChangeSpec := { name := "defineNames", fn := fun _ => fun
  | [d1, d2] => { results := [.lit (.bool false)], args := [d1, d2] }
  | _ => none }
def DefineNamesWrongFalsely : Prop := defineNamesRow.holds Tryd.pinned (OpenSpec.ofChange defineNamesWrong)

/-- 'fleuronlaw10.DefineRanges': WHATEVER THE INPUT: true; the input reads as it did. -/
def defineRangesSpec : ChangeSpec := { name := "defineRanges", fn := fun _ => fun
  | [d1, d2, d3] => { results := [.lit (.bool true)], args := [d1, d2, d3] }
  | _ => none }
def defineRangesRow : OpenClaim := { program := "ytjjlnmjapfcmaaadoor", sum := "62c1bc95233493a110984368656af9591b04c3bf4cc7e7dd5085b57b622c89b7", func := "fleuron/fleuronlaw10.DefineRanges", spec := "defineRanges", recurses := true, named := ["fleuron/define.names", "fleuron/define.alone", "fleuron/define.told"], apart := false, laid := [("fleuron/define.names", laid_fleuron_define_names), ("fleuron/define.alone", laid_fleuron_define_alone), ("fleuron/define.told", laid_fleuron_define_told)] }
def DefineRangesSaid : Prop := defineRangesRow.holds Tryd.pinned (OpenSpec.ofChange defineRangesSpec)

/-- ITS FALSE NEIGHBOUR: 'it returns false'. Refute it at one input. -/
def defineRangesWrong : ChangeSpec := { name := "defineRanges", fn := fun _ => fun
  | [d1, d2, d3] => { results := [.lit (.bool false)], args := [d1, d2, d3] }
  | _ => none }
def DefineRangesWrongFalsely : Prop := defineRangesRow.holds Tryd.pinned (OpenSpec.ofChange defineRangesWrong)

/- THE SECOND FORM. 'bulk': how many values and letters a reading holds, each counted each time it is reached (what is shared counts as often as it is met; a slice's spare places count too). A statement '..UptoSaid' is the law's where the arguments, and the package variables that the reading takes, are together of bulk at most 1048576: NARROWER than '..Said'. Prove '..Said' where nothing that the law and all that it calls make is longer than what came in: it says more and counts as full. Else prove '..UptoSaid'. A law counts once. -/
mutual
def uptoBulk {H : Type} : DataW H → Nat
  | .lit (.string bytes) => bytes.length + 1
  | .lit _ => 1
  | .nil => 1
  | .ptr d => uptoBulk d + 1
  | .slice elems spare => uptoBulkAll elems + uptoBulkAll spare + 1
  | .agg parts => uptoBulkAll parts + 1
  | .iface _ d => uptoBulk d + 1
  | .map entries => uptoBulkEntries entries + 1
  | .held _ => 1
def uptoBulkAll {H : Type} : List (DataW H) → Nat
  | [] => 0
  | d :: r => uptoBulk d + uptoBulkAll r
def uptoBulkEntries {H : Type} : List (Lit × DataW H) → Nat
  | [] => 0
  | x :: r => uptoBulkEntry x + uptoBulkEntries r
def uptoBulkEntry {H : Type} : Lit × DataW H → Nat
  | (.string bytes, d) => bytes.length + uptoBulk d + 1
  | (_, d) => uptoBulk d + 1
 end
def uptoSmall : (H : Type) → List (DataW H) → Bool := fun _ ds => decide (uptoBulkAll ds ≤ 1048576)
def OpenSpec.upto (s : _root_.Go.ChangeSpec) : _root_.Go.OpenSpec := { _root_.Go.OpenSpec.ofChange s with cond := some uptoSmall }

/-- 'fleuronlaw10.DefineReads', WHERE WHAT IT READS IS OF BULK AT MOST 1048576: true; the input reads as it did. -/
def defineReadsUptoRow : OpenClaim := { program := "ytjjlnmjapfcmaaadoor", sum := "62c1bc95233493a110984368656af9591b04c3bf4cc7e7dd5085b57b622c89b7", func := "fleuron/fleuronlaw10.DefineReads", spec := "defineReads", recurses := true, named := ["fleuron/define.names", "fleuron/define.alone", "fleuron/define.told"], apart := false, laid := [("fleuron/define.names", laid_fleuron_define_names), ("fleuron/define.alone", laid_fleuron_define_alone), ("fleuron/define.told", laid_fleuron_define_told)], narrowed := true }
def DefineReadsUptoSaid : Prop := defineReadsUptoRow.holds Tryd.pinned (OpenSpec.upto defineReadsSpec)

/-- 'fleuronlaw10.DefineLast', WHERE WHAT IT READS IS OF BULK AT MOST 1048576: true; the input reads as it did. -/
def defineLastUptoRow : OpenClaim := { program := "ytjjlnmjapfcmaaadoor", sum := "62c1bc95233493a110984368656af9591b04c3bf4cc7e7dd5085b57b622c89b7", func := "fleuron/fleuronlaw10.DefineLast", spec := "defineLast", recurses := true, named := ["fleuron/define.names", "fleuron/define.alone", "fleuron/define.told"], apart := false, laid := [("fleuron/define.names", laid_fleuron_define_names), ("fleuron/define.alone", laid_fleuron_define_alone), ("fleuron/define.told", laid_fleuron_define_told)], narrowed := true }
def DefineLastUptoSaid : Prop := defineLastUptoRow.holds Tryd.pinned (OpenSpec.upto defineLastSpec)

/-- 'fleuronlaw10.DefineSystems', WHERE WHAT IT READS IS OF BULK AT MOST 1048576: true; the input reads as it did. -/
def defineSystemsUptoRow : OpenClaim := { program := "ytjjlnmjapfcmaaadoor", sum := "62c1bc95233493a110984368656af9591b04c3bf4cc7e7dd5085b57b622c89b7", func := "fleuron/fleuronlaw10.DefineSystems", spec := "defineSystems", recurses := true, named := ["fleuron/define.names", "fleuron/define.alone", "fleuron/define.told"], apart := false, laid := [("fleuron/define.names", laid_fleuron_define_names), ("fleuron/define.alone", laid_fleuron_define_alone), ("fleuron/define.told", laid_fleuron_define_told)], narrowed := true }
def DefineSystemsUptoSaid : Prop := defineSystemsUptoRow.holds Tryd.pinned (OpenSpec.upto defineSystemsSpec)

/-- 'fleuronlaw10.DefineNames', WHERE WHAT IT READS IS OF BULK AT MOST 1048576: true; the input reads as it did. -/
def defineNamesUptoRow : OpenClaim := { program := "ytjjlnmjapfcmaaadoor", sum := "62c1bc95233493a110984368656af9591b04c3bf4cc7e7dd5085b57b622c89b7", func := "fleuron/fleuronlaw10.DefineNames", spec := "defineNames", recurses := true, named := ["fleuron/define.names", "fleuron/define.alone", "fleuron/define.told"], apart := false, laid := [("fleuron/define.names", laid_fleuron_define_names), ("fleuron/define.alone", laid_fleuron_define_alone), ("fleuron/define.told", laid_fleuron_define_told)], narrowed := true }
def DefineNamesUptoSaid : Prop := defineNamesUptoRow.holds Tryd.pinned (OpenSpec.upto defineNamesSpec)

/-- 'fleuronlaw10.DefineRanges', WHERE WHAT IT READS IS OF BULK AT MOST 1048576: true; the input reads as it did. -/
def defineRangesUptoRow : OpenClaim := { program := "ytjjlnmjapfcmaaadoor", sum := "62c1bc95233493a110984368656af9591b04c3bf4cc7e7dd5085b57b622c89b7", func := "fleuron/fleuronlaw10.DefineRanges", spec := "defineRanges", recurses := true, named := ["fleuron/define.names", "fleuron/define.alone", "fleuron/define.told"], apart := false, laid := [("fleuron/define.names", laid_fleuron_define_names), ("fleuron/define.alone", laid_fleuron_define_alone), ("fleuron/define.told", laid_fleuron_define_told)], narrowed := true }
def DefineRangesUptoSaid : Prop := defineRangesUptoRow.holds Tryd.pinned (OpenSpec.upto defineRangesSpec)

end Rows
end Go.Proofs.YtjjlnmjapfcmaaaDoor
