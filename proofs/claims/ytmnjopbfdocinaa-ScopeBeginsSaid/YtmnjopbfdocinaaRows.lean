/-
  No cell of these rows narrows 'for every input' (looked for: loops, veiled, ifaces, maps, wideKeys, modest, calm, conditions, laid).
  DERIVED. THE GIVEN ROWS OF THIS SEAT. 3 by the template 'for every input the law returns true; each argument reads behind the call as it read before'; 0 by the template 'total and deterministic' (their statements: YtmnjopbfdocinaaTotals.lean).
  GIVEN WITH THE SEED: the statements are not yours to turn. If you find one false, say at which input.
  Laid BY PROGRAM, IN A SANDBOX (cutbox-rows.mjs): the forced cells as the released guide's own fill.sh prints them over the translation 01dadfd7a04e735d… (all of the seat's roots in one cut). By AI agents, Wed Nov 11 2026. No macro, syntax, notation, axiom, sorry.
-/
import Derived.Test.YtmnjopbfdocinaaChecked
import GoSem.Claim
import GoSem.ClaimJoined
import GoSem.ClaimMapViews
import Derived.JoinedTies
import Derived.KernelRfl
namespace Go.Proofs.Ytmnjopbfdocinaa
/- THE CELL 'sum', in the pinned program and in every row, IS THE sha256 OF THE DUMP (.gsa) THAT YtmnjopbfdocinaaProg.lean LOADS. Nothing in Lean hashes anything: it is a label: what it is worth is what the hold of that sum in a sandbox is worth. -/
noncomputable def Try.pinned : Pinned := { name := "ytmnjopbfdocinaa", sum := "01dadfd7a04e735d3a1da4d7c5aaa9c41d434cbcdf247917e0c6405f832919fa", checked := Try.checked }
namespace Rows
def none {H : Type} : Left H := { results := [], args := [] }

/-- 'fleuronlaw15.ScopeSums': WHATEVER THE INPUT: true; the input reads as it did. -/
def scopeSumsSpec : ChangeSpec := { name := "scopeSums", fn := fun _ => fun
  | [d1, d2] => { results := [.lit (.bool true)], args := [d1, d2] }
  | _ => none }
def scopeSumsRow : OpenClaim := { program := "ytmnjopbfdocinaa", sum := "01dadfd7a04e735d3a1da4d7c5aaa9c41d434cbcdf247917e0c6405f832919fa", func := "fleuron/fleuronlaw15.ScopeSums", spec := "scopeSums", plainKeys := false, apart := false }
def ScopeSumsSaid : Prop := scopeSumsRow.holds Try.pinned (OpenSpec.ofChange scopeSumsSpec)

/-- ITS FALSE NEIGHBOUR: 'it returns false'. Refute it at one input. -/
def scopeSumsWrong : ChangeSpec := { name := "scopeSums", fn := fun _ => fun
  | [d1, d2] => { results := [.lit (.bool false)], args := [d1, d2] }
  | _ => none }
def ScopeSumsWrongFalsely : Prop := scopeSumsRow.holds Try.pinned (OpenSpec.ofChange scopeSumsWrong)

/-- 'fleuronlaw15.ScopeInner': WHATEVER THE INPUT: true; the input reads as it did. -/
def scopeInnerSpec : ChangeSpec := { name := "scopeInner", fn := fun _ => fun
  | [d1, d2, d3] => { results := [.lit (.bool true)], args := [d1, d2, d3] }
  | _ => none }
def scopeInnerRow : OpenClaim := { program := "ytmnjopbfdocinaa", sum := "01dadfd7a04e735d3a1da4d7c5aaa9c41d434cbcdf247917e0c6405f832919fa", func := "fleuron/fleuronlaw15.ScopeInner", spec := "scopeInner", plainKeys := false, apart := false }
def ScopeInnerSaid : Prop := scopeInnerRow.holds Try.pinned (OpenSpec.ofChange scopeInnerSpec)

/-- ITS FALSE NEIGHBOUR: 'it returns false'. Refute it at one input. -/
def scopeInnerWrong : ChangeSpec := { name := "scopeInner", fn := fun _ => fun
  | [d1, d2, d3] => { results := [.lit (.bool false)], args := [d1, d2, d3] }
  | _ => none }
def ScopeInnerWrongFalsely : Prop := scopeInnerRow.holds Try.pinned (OpenSpec.ofChange scopeInnerWrong)

/-- 'fleuronlaw15.ScopeBegins': WHATEVER THE INPUT: true; the input reads as it did. -/
def scopeBeginsSpec : ChangeSpec := { name := "scopeBegins", fn := fun _ => fun
  | [d1, d2, d3] => { results := [.lit (.bool true)], args := [d1, d2, d3] }
  | _ => none }
def scopeBeginsRow : OpenClaim := { program := "ytmnjopbfdocinaa", sum := "01dadfd7a04e735d3a1da4d7c5aaa9c41d434cbcdf247917e0c6405f832919fa", func := "fleuron/fleuronlaw15.ScopeBegins", spec := "scopeBegins", unfollowed := true, recurses := true, plainKeys := false, apart := false }
def ScopeBeginsSaid : Prop := scopeBeginsRow.holds Try.pinned (OpenSpec.ofChange scopeBeginsSpec)

/-- ITS FALSE NEIGHBOUR: 'it returns false'. Refute it at one input. -/
def scopeBeginsWrong : ChangeSpec := { name := "scopeBegins", fn := fun _ => fun
  | [d1, d2, d3] => { results := [.lit (.bool false)], args := [d1, d2, d3] }
  | _ => none }
def ScopeBeginsWrongFalsely : Prop := scopeBeginsRow.holds Try.pinned (OpenSpec.ofChange scopeBeginsWrong)

/- THE SECOND FORM. 'bulk': how many values and letters a reading holds, each counted each time it is reached (what is shared counts as often as it is met; a slice's spare places count too). A statement '..UptoSaid' is the law's where the arguments, and the package variables that the reading takes, are together of bulk at most 1048576: NARROWER than '..Said'. Prove '..Said' where nothing that the law and all that it calls make is longer than what came in: it says more and counts as full. Else prove '..UptoSaid'. A law counts once. -/
mutual
def uptoBulk {H : Type} : DataW H → Nat
  | .lit (.string bytes) => bytes.length + 1
  | .lit _ => 1
  | .nil => 1
  | .ptr d => uptoBulk d + 1
  | .slice elems spare => uptoBulkAll elems + uptoBulkAll spare + 1
  | .agg parts => uptoBulkAll parts + 1
  | .iface _ d => uptoBulk d + 1
  | .map entries => uptoBulkEntries entries + 1
  | .held _ => 1
def uptoBulkAll {H : Type} : List (DataW H) → Nat
  | [] => 0
  | d :: r => uptoBulk d + uptoBulkAll r
def uptoBulkEntries {H : Type} : List (Lit × DataW H) → Nat
  | [] => 0
  | x :: r => uptoBulkEntry x + uptoBulkEntries r
def uptoBulkEntry {H : Type} : Lit × DataW H → Nat
  | (.string bytes, d) => bytes.length + uptoBulk d + 1
  | (_, d) => uptoBulk d + 1
 end
def uptoSmall : (H : Type) → List (DataW H) → Bool := fun _ ds => decide (uptoBulkAll ds ≤ 1048576)
def OpenSpec.upto (s : _root_.Go.ChangeSpec) : _root_.Go.OpenSpec := { _root_.Go.OpenSpec.ofChange s with cond := some uptoSmall }

/-- 'fleuronlaw15.ScopeSums', WHERE WHAT IT READS IS OF BULK AT MOST 1048576: true; the input reads as it did. -/
def scopeSumsUptoRow : OpenClaim := { program := "ytmnjopbfdocinaa", sum := "01dadfd7a04e735d3a1da4d7c5aaa9c41d434cbcdf247917e0c6405f832919fa", func := "fleuron/fleuronlaw15.ScopeSums", spec := "scopeSums", plainKeys := false, apart := false, narrowed := true }
def ScopeSumsUptoSaid : Prop := scopeSumsUptoRow.holds Try.pinned (OpenSpec.upto scopeSumsSpec)

/-- 'fleuronlaw15.ScopeInner', WHERE WHAT IT READS IS OF BULK AT MOST 1048576: true; the input reads as it did. -/
def scopeInnerUptoRow : OpenClaim := { program := "ytmnjopbfdocinaa", sum := "01dadfd7a04e735d3a1da4d7c5aaa9c41d434cbcdf247917e0c6405f832919fa", func := "fleuron/fleuronlaw15.ScopeInner", spec := "scopeInner", plainKeys := false, apart := false, narrowed := true }
def ScopeInnerUptoSaid : Prop := scopeInnerUptoRow.holds Try.pinned (OpenSpec.upto scopeInnerSpec)

/-- 'fleuronlaw15.ScopeBegins', WHERE WHAT IT READS IS OF BULK AT MOST 1048576: true; the input reads as it did. -/
def scopeBeginsUptoRow : OpenClaim := { program := "ytmnjopbfdocinaa", sum := "01dadfd7a04e735d3a1da4d7c5aaa9c41d434cbcdf247917e0c6405f832919fa", func := "fleuron/fleuronlaw15.ScopeBegins", spec := "scopeBegins", unfollowed := true, recurses := true, plainKeys := false, apart := false, narrowed := true }
def ScopeBeginsUptoSaid : Prop := scopeBeginsUptoRow.holds Try.pinned (OpenSpec.upto scopeBeginsSpec)

end Rows
end Go.Proofs.Ytmnjopbfdocinaa
