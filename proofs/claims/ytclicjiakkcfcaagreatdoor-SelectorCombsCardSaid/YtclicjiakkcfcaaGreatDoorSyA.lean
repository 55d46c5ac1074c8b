import Derived.Test.YtclicjiakkcfcaaGreatDoorPtsL
import Derived.Lib.Hide
import Derived.Deep.Strs
namespace Go.Proofs.YtclicjiakkcfcaaGreatDoor
open Go.RowKit
def RdTx (w : World) (v : Value) (ws : List ByteArray) : Prop :=
 ∃ (a : Option Addr) (c : Nat), v = .slice a ws.length c ∧ ws.length ≤ c ∧ (0 < ws.length → ∃ b off, a = some ⟨b, off, none⟩ ∧ b < w.heap.size ∧ ∀ j, (hj : j < ws.length) → w.cell? ⟨b, off + j, none⟩ = some (.string ws[j]))
theorem RdTx.below {w w' : World} {v : Value} {l : List ByteArray} (h : RdTx w v l) (hb : Below w.heap.size w w') : RdTx w' v l := by
 obtain ⟨a, c, hv, hle, h⟩ := h
 refine ⟨a, c, hv, hle, fun hp => ?_⟩
 obtain ⟨b, off, ha, hlt, hc⟩ := h hp
 exact ⟨b, off, ha, Nat.lt_of_lt_of_le hlt hb.size, fun j hj => (hb.cell (p := ⟨b, _, none⟩) hlt).trans (hc j hj)⟩
theorem RdTx.nil (w : World) (c : Nat) (a : Option Addr) : RdTx w (.slice a 0 c) [] := ⟨a, c, rfl, Nat.zero_le _, fun h => absurd h (by decide)⟩
end Go.Proofs.YtclicjiakkcfcaaGreatDoor
