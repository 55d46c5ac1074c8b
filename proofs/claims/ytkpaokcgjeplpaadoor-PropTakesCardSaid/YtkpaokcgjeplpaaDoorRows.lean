/-
  NARROWER THAN 'FOR EVERY INPUT', by the rows' own cells (each row's printed sentence says how): PropTakes: laid · PropWides: laid · PropQuotes: laid.
  DERIVED. THE GIVEN ROWS OF THIS SEAT. 3 by the template 'for every input the law returns true; each argument reads behind the call as it read before'; 0 by the template 'total and deterministic' (their statements: YtkpaokcgjeplpaaDoorTotals.lean).
  GIVEN WITH THE SEED: the statements are not yours to turn. If you find one false, say at which input.
  Laid BY PROGRAM, IN A SANDBOX (cutbox-rows.mjs): the forced cells as the released guide's own fill.sh prints them over the translation af5704ab90301434… (all of the seat's roots in one cut). By AI agents, Wed Nov 11 2026. No macro, syntax, notation, axiom, sorry.
-/
import Derived.Test.YtkpaokcgjeplpaaDoorChecked
import GoSem.Claim
import GoSem.ClaimJoined
import GoSem.ClaimMapViews
import Derived.JoinedTies
import Derived.KernelRfl
namespace Go.Proofs.YtkpaokcgjeplpaaDoor
/- THE CELL 'sum', in the pinned program and in every row, IS THE sha256 OF THE DUMP (.gsa) THAT YtkpaokcgjeplpaaDoorProg.lean LOADS. Nothing in Lean hashes anything: it is a label: what it is worth is what the hold of that sum in a sandbox is worth. -/
noncomputable def Tryd.pinned : Pinned := { name := "ytkpaokcgjeplpaadoor", sum := "af5704ab90301434edca26f6dddabdf5713493f1e8f783f007136171276e34ba", checked := Tryd.checked }
namespace Rows
def none {H : Type} : Left H := { results := [], args := [] }

/- WHAT THE LISTED PACKAGE-LEVEL VARIABLES READ AS WHEN THE CALL BEGINS. Each datum BY PROGRAM (the guide's laid-datum.mjs) off the statement by which the dump's own 'gosem.cut.vars' lays the variable. In a bare row this is a premise. The card (YtkpaokcgjeplpaaDoorCards.lean) ties it to the program's text. -/
def laid_fleuron_define_names {H : Type} : DataW H := .agg [.agg [.lit (.string [110, 111, 110, 101]), .lit (.int .i64 1)], .agg [.lit (.string [105, 110, 105, 116, 105, 97, 108]), .lit (.int .i64 1)], .agg [.lit (.string [105, 110, 104, 101, 114, 105, 116]), .lit (.int .i64 1)], .agg [.lit (.string [117, 110, 115, 101, 116]), .lit (.int .i64 1)], .agg [.lit (.string [100, 101, 102, 97, 117, 108, 116]), .lit (.int .i64 1)], .agg [.lit (.string [100, 101, 99, 105, 109, 97, 108]), .lit (.int .i64 2)], .agg [.lit (.string [100, 105, 115, 99]), .lit (.int .i64 2)], .agg [.lit (.string [115, 113, 117, 97, 114, 101]), .lit (.int .i64 2)], .agg [.lit (.string [99, 105, 114, 99, 108, 101]), .lit (.int .i64 2)], .agg [.lit (.string [100, 101, 99, 105, 109, 97, 108, 45, 108, 101, 97, 100, 105, 110, 103, 45, 122, 101, 114, 111]), .lit (.int .i64 3)], .agg [.lit (.string [108, 111, 119, 101, 114, 45, 97, 108, 112, 104, 97]), .lit (.int .i64 3)], .agg [.lit (.string [117, 112, 112, 101, 114, 45, 97, 108, 112, 104, 97]), .lit (.int .i64 3)], .agg [.lit (.string [108, 111, 119, 101, 114, 45, 114, 111, 109, 97, 110]), .lit (.int .i64 3)], .agg [.lit (.string [117, 112, 112, 101, 114, 45, 114, 111, 109, 97, 110]), .lit (.int .i64 3)], .agg [.lit (.string [108, 111, 119, 101, 114, 45, 103, 114, 101, 101, 107]), .lit (.int .i64 3)]]
def laid_fleuron_prop_marks {H : Type} : DataW H := .agg [.agg [.lit (.string [111, 112, 101, 110, 45, 113, 117, 111, 116, 101]), .lit (.int .i64 5)], .agg [.lit (.string [99, 108, 111, 115, 101, 45, 113, 117, 111, 116, 101]), .lit (.int .i64 6)], .agg [.lit (.string [110, 111, 45, 111, 112, 101, 110, 45, 113, 117, 111, 116, 101]), .lit (.int .i64 7)], .agg [.lit (.string [110, 111, 45, 99, 108, 111, 115, 101, 45, 113, 117, 111, 116, 101]), .lit (.int .i64 8)]]
def laid_fleuron_prop_wides {H : Type} : DataW H := .agg [.agg [.lit (.string [105, 110, 104, 101, 114, 105, 116]), .lit (.int .i64 1)], .agg [.lit (.string [105, 110, 105, 116, 105, 97, 108]), .lit (.int .i64 2)], .agg [.lit (.string [117, 110, 115, 101, 116]), .lit (.int .i64 3)]]

/-- 'fleuronlaw12.PropTakes': WHATEVER THE INPUT: true; the input reads as it did. -/
def propTakesSpec : ChangeSpec := { name := "propTakes", fn := fun _ => fun
  | [d1, d2, d3] => { results := [.lit (.bool true)], args := [d1, d2, d3] }
  | _ => none }
def propTakesRow : OpenClaim := { program := "ytkpaokcgjeplpaadoor", sum := "af5704ab90301434edca26f6dddabdf5713493f1e8f783f007136171276e34ba", func := "fleuron/fleuronlaw12.PropTakes", spec := "propTakes", unfollowed := true, recurses := true, named := ["fleuron/prop.marks", "fleuron/prop.wides", "fleuron/define.names"], apart := false, laid := [("fleuron/define.names", laid_fleuron_define_names), ("fleuron/prop.marks", laid_fleuron_prop_marks), ("fleuron/prop.wides", laid_fleuron_prop_wides)] }
def PropTakesSaid : Prop := propTakesRow.holds Tryd.pinned (OpenSpec.ofChange propTakesSpec)

/-- ITS FALSE NEIGHBOUR: 'it returns false'. Refute it at one input. -/
def propTakesWrong : ChangeSpec := { name := "propTakes", fn := fun _ => fun
  | [d1, d2, d3] => { results := [.lit (.bool false)], args := [d1, d2, d3] }
  | _ => none }
def PropTakesWrongFalsely : Prop := propTakesRow.holds Tryd.pinned (OpenSpec.ofChange propTakesWrong)

/-- 'fleuronlaw12.PropWides': WHATEVER THE INPUT: true; the input reads as it did. -/
def propWidesSpec : ChangeSpec := { name := "propWides", fn := fun _ => fun
  | [d1, d2, d3] => { results := [.lit (.bool true)], args := [d1, d2, d3] }
  | _ => none }
def propWidesRow : OpenClaim := { program := "ytkpaokcgjeplpaadoor", sum := "af5704ab90301434edca26f6dddabdf5713493f1e8f783f007136171276e34ba", func := "fleuron/fleuronlaw12.PropWides", spec := "propWides", unfollowed := true, recurses := true, named := ["fleuron/prop.marks", "fleuron/prop.wides", "fleuron/define.names"], apart := false, laid := [("fleuron/define.names", laid_fleuron_define_names), ("fleuron/prop.marks", laid_fleuron_prop_marks), ("fleuron/prop.wides", laid_fleuron_prop_wides)] }
def PropWidesSaid : Prop := propWidesRow.holds Tryd.pinned (OpenSpec.ofChange propWidesSpec)

/-- ITS FALSE NEIGHBOUR: 'it returns false'. Refute it at one input. -/
def propWidesWrong : ChangeSpec := { name := "propWides", fn := fun _ => fun
  | [d1, d2, d3] => { results := [.lit (.bool false)], args := [d1, d2, d3] }
  | _ => none }
def PropWidesWrongFalsely : Prop := propWidesRow.holds Tryd.pinned (OpenSpec.ofChange propWidesWrong)

/-- 'fleuronlaw12.PropQuotes': WHATEVER THE INPUT: true; the input reads as it did. -/
def propQuotesSpec : ChangeSpec := { name := "propQuotes", fn := fun _ => fun
  | [d1, d2] => { results := [.lit (.bool true)], args := [d1, d2] }
  | _ => none }
def propQuotesRow : OpenClaim := { program := "ytkpaokcgjeplpaadoor", sum := "af5704ab90301434edca26f6dddabdf5713493f1e8f783f007136171276e34ba", func := "fleuron/fleuronlaw12.PropQuotes", spec := "propQuotes", unfollowed := true, recurses := true, named := ["fleuron/prop.marks", "fleuron/prop.wides", "fleuron/define.names"], apart := false, laid := [("fleuron/define.names", laid_fleuron_define_names), ("fleuron/prop.marks", laid_fleuron_prop_marks), ("fleuron/prop.wides", laid_fleuron_prop_wides)] }
def PropQuotesSaid : Prop := propQuotesRow.holds Tryd.pinned (OpenSpec.ofChange propQuotesSpec)

/-- ITS FALSE NEIGHBOUR: 'it returns false'. Refute it at one input. -/
def propQuotesWrong : ChangeSpec := { name := "propQuotes", fn := fun _ => fun
  | [d1, d2] => { results := [.lit (.bool false)], args := [d1, d2] }
  | _ => none }
def PropQuotesWrongFalsely : Prop := propQuotesRow.holds Tryd.pinned (OpenSpec.ofChange propQuotesWrong)

/- THE SECOND FORM. 'bulk': how many values and letters a reading holds, each counted each time it is reached (what is shared counts as often as it is met; a slice's spare places count too). A statement '..UptoSaid' is the law's where the arguments, and the package variables that the reading takes, are together of bulk at most 1048576: NARROWER than '..Said'. Prove '..Said' where nothing that the law and all that it calls make is longer than what came in: it says more and counts as full. Else prove '..UptoSaid'. A law counts once. -/
mutual
def uptoBulk {H : Type} : DataW H → Nat
  | .lit (.string bytes) => bytes.length + 1
  | .lit _ => 1
  | .nil => 1
  | .ptr d => uptoBulk d + 1
  | .slice elems spare => uptoBulkAll elems + uptoBulkAll spare + 1
  | .agg parts => uptoBulkAll parts + 1
  | .iface _ d => uptoBulk d + 1
  | .map entries => uptoBulkEntries entries + 1
  | .held _ => 1
def uptoBulkAll {H : Type} : List (DataW H) → Nat
  | [] => 0
  | d :: r => uptoBulk d + uptoBulkAll r
def uptoBulkEntries {H : Type} : List (Lit × DataW H) → Nat
  | [] => 0
  | x :: r => uptoBulkEntry x + uptoBulkEntries r
def uptoBulkEntry {H : Type} : Lit × DataW H → Nat
  | (.string bytes, d) => bytes.length + uptoBulk d + 1
  | (_, d) => uptoBulk d + 1
 end
def uptoSmall : (H : Type) → List (DataW H) → Bool := fun _ ds => decide (uptoBulkAll ds ≤ 1048576)
def OpenSpec.upto (s : _root_.Go.ChangeSpec) : _root_.Go.OpenSpec := { _root_.Go.OpenSpec.ofChange s with cond := some uptoSmall }

/-- 'fleuronlaw12.PropTakes', WHERE WHAT IT READS IS OF BULK AT MOST 1048576: true; the input reads as it did. -/
def propTakesUptoRow : OpenClaim := { program := "ytkpaokcgjeplpaadoor", sum := "af5704ab90301434edca26f6dddabdf5713493f1e8f783f007136171276e34ba", func := "fleuron/fleuronlaw12.PropTakes", spec := "propTakes", unfollowed := true, recurses := true, named := ["fleuron/prop.marks", "fleuron/prop.wides", "fleuron/define.names"], apart := false, laid := [("fleuron/define.names", laid_fleuron_define_names), ("fleuron/prop.marks", laid_fleuron_prop_marks), ("fleuron/prop.wides", laid_fleuron_prop_wides)], narrowed := true }
def PropTakesUptoSaid : Prop := propTakesUptoRow.holds Tryd.pinned (OpenSpec.upto propTakesSpec)

/-- 'fleuronlaw12.PropWides', WHERE WHAT IT READS IS OF BULK AT MOST 1048576: true; the input reads as it did. -/
def propWidesUptoRow : OpenClaim := { program := "ytkpaokcgjeplpaadoor", sum := "af5704ab90301434edca26f6dddabdf5713493f1e8f783f007136171276e34ba", func := "fleuron/fleuronlaw12.PropWides", spec := "propWides", unfollowed := true, recurses := true, named := ["fleuron/prop.marks", "fleuron/prop.wides", "fleuron/define.names"], apart := false, laid := [("fleuron/define.names", laid_fleuron_define_names), ("fleuron/prop.marks", laid_fleuron_prop_marks), ("fleuron/prop.wides", laid_fleuron_prop_wides)], narrowed := true }
def PropWidesUptoSaid : Prop := propWidesUptoRow.holds Tryd.pinned (OpenSpec.upto propWidesSpec)

/-- 'fleuronlaw12.PropQuotes', WHERE WHAT IT READS IS OF BULK AT MOST 1048576: true; the input reads as it did. -/
def propQuotesUptoRow : OpenClaim := { program := "ytkpaokcgjeplpaadoor", sum := "af5704ab90301434edca26f6dddabdf5713493f1e8f783f007136171276e34ba", func := "fleuron/fleuronlaw12.PropQuotes", spec := "propQuotes", unfollowed := true, recurses := true, named := ["fleuron/prop.marks", "fleuron/prop.wides", "fleuron/define.names"], apart := false, laid := [("fleuron/define.names", laid_fleuron_define_names), ("fleuron/prop.marks", laid_fleuron_prop_marks), ("fleuron/prop.wides", laid_fleuron_prop_wides)], narrowed := true }
def PropQuotesUptoSaid : Prop := propQuotesUptoRow.holds Tryd.pinned (OpenSpec.upto propQuotesSpec)

end Rows
end Go.Proofs.YtkpaokcgjeplpaaDoor
