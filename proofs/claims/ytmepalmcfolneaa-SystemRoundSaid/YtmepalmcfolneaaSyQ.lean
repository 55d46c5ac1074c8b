
import Derived.Test.YtmepalmcfolneaaSyP2
import Derived.Test.YtmepalmcfolneaaSyQ0
namespace Go.Proofs.Ytmepalmcfolneaa
open Go.RowKit
/-- A made style whose symbols are gathered. -/
abbrev madeC (s : ByteArray) (f : Int) (sv : Value) : Array Value :=
  #[.string ⟨#[]⟩, .string s, .int .i64 f, sv, .slice none 0 0, .string ⟨#[]⟩, .string ⟨#[]⟩, .string ⟨#[]⟩, .string ⟨#[]⟩, .bool true, .slice none 0 0, .int .i64 0, .string ⟨#[]⟩, .string ⟨#[]⟩, .string ⟨#[]⟩, .int .i64 0]
structure SzI (w0 : World) (b : Nat) (s : ByteArray) (f : Int) (sv : Value) (syms : List ByteArray) (wr : World) : Prop where
  bx : Bx wr b (madeC s f sv)
  own : OwnT w0.heap.size wr sv syms
  below : Below w0.heap.size w0 wr
  lo : w0.heap.size ≤ b
theorem SzI.alloc {w0 : World} {b : Nat} {s : ByteArray} {f : Int} {sv : Value} {syms : List ByteArray} {wr : World} (h : SzI w0 b s f sv syms wr) (o : Obj) : SzI w0 b s f sv syms (wr.alloc o) :=
  ⟨h.bx.alloc o, h.own.alloc o, h.below.alloc h.below.size o, h.lo⟩
/-- One symbol more. -/
theorem SzI.step {w0 : World} {b : Nat} {s : ByteArray} {f : Int} {sv v' : Value} {syms : List ByteArray} {wr w1 : World} {x : ByteArray} (h : SzI w0 b s f sv syms wr)
    (hown : w1.ownsRow w0.heap.size 9 1 v' (syms.length + 1) (syms.map Value.string ++ [.string x])) (hg : wr.grownBy w1 sv.ownBlock) : SzI w0 b s f v' (syms ++ [x]) (w1.setCell ⟨b, 3, none⟩ v') := by
  have hne : sv.ownBlock ≠ some b := row_ne h.own h.bx (by decide)
  have hb1 : Bx w1 b (madeC s f sv) := h.bx.grown hg hne
  have hne2 : v'.ownBlock ≠ some b := row_ne hown hb1 (by decide)
  exact ⟨hb1.set 3 v', OwnT.snoc (row_far hown hne2 v'), (h.below.grown hg h.below.size (fun k hk => (h.own.lt k hk).1)).setCell h.lo _, h.lo⟩
end Go.Proofs.Ytmepalmcfolneaa
