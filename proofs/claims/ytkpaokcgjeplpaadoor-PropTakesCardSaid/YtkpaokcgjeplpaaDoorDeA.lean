
import Derived.Test.YtkpaokcgjeplpaaDoorShE
namespace Go.Proofs.YtkpaokcgjeplpaaDoor
open Go.RowKit
/-! Package define: what one node says. -/
def symS (t : Tok) : ByteArray × Bool := if ((t.kind == 5) || (t.kind == 1)) = true then (t.text, true) else (⟨#[]⟩, false)
def wordS (t : Tok) : ByteArray := if (t.kind == 1) = true then lowS t.text else ⟨#[]⟩
def numS (t : Tok) : Int × Bool := if ((t.kind == 10) && t.whole) = true then (t.int, true) else (0, false)
abbrev infL : List UInt8 := [105, 110, 102, 105, 110, 105, 116, 101]
def bouS (t : Tok) (far : Int) : Int × Bool := if ((wordS t).toList == infL) = true then (far, true) else numS t
abbrev nodeC (t : Tok) (u : Value) : Array Value := #[.int .i64 t.kind, .string t.text, .int .i64 t.int, .bool t.whole, .bool t.sign, .bool t.id, u]
theorem box_bel (w : World) (t : Tok) (u : Value) : Below w.heap.size w (w.alloc (.cells (nodeC t u) 86)) := (Below.refl w.heap.size w).alloc (Nat.le_refl _) _
end Go.Proofs.YtkpaokcgjeplpaaDoor
