import Derived.Test.YtclicjiakkcfcaaGreatDoorAnA
import Derived.Test.YtclicjiakkcfcaaGreatDoorSyA
namespace Go.Proofs.YtclicjiakkcfcaaGreatDoor
open Go.RowKit
section
variable {Q : Nat → Prop} {B : Nat} {w w1 : World} {v : Value}
theorem row_sl {T : TypeId} {k n : Nat} {xs : List Value} (h : w.ownsRow B T k v n xs) : ∃ a c, v = .slice a n c ∧ n ≤ c := by
 rcases h.2 with ⟨h1, h0⟩ | ⟨g, cap, cur, hv, hb, hc, hn, _⟩
 · exact ⟨none, 0, by rw [h1, h0], by omega⟩
 · exact ⟨_, _, hv, hn⟩
theorem row_hat {g : Nat} {n cap : Nat} {b : Nat} (hat : v.ownBlock = some g ∨ g = w.heap.size) (hl : b < w.heap.size) (hb : v.ownBlock ≠ some b) : (Value.slice (some ⟨g, 0, none⟩) n cap).ownBlock ≠ some b := fun e => by
 have e2 : g = b := by simpa [Value.ownBlock] using e
 subst e2
 rcases hat with hat | hat
 · exact hb hat
 · omega
theorem add0 (g j : Nat) : (⟨g, 0, none⟩ : Addr).add j = ⟨g, j, none⟩ := by unfold Addr.add; split <;> simp_all
end
end Go.Proofs.YtclicjiakkcfcaaGreatDoor
