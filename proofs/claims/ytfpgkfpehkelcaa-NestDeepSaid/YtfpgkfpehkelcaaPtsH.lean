
import Derived.Test.YtfpgkfpehkelcaaPtsG
import Derived.Lib.SlBytesConst
namespace Go.Proofs.Ytfpgkfpehkelcaa
open Go.RowKit

/-- One step behind another. -/
theorem below_seq {w a b : World} (h : Below w.heap.size w a) (k : Below a.heap.size a b) : Below w.heap.size w b := h.trans (k.mono h.size)

theorem heap_alloc_self (w : World) (o : Obj) : (w.alloc o).heap[w.heap.size]? = some o := by
  show (w.heap.push o)[w.heap.size]? = _
  simp

/-- A slice that has been written out. -/
theorem Rd.lit (w : World) (k : IntKind) (xs : List Int) (C : Array Value) (t : TypeId) (fr : Nat × Nat) (n : Nat) (hC : C = (xs.map (Value.int k)).toArray) (hn : n = xs.length) :
    Rd k (w.alloc (.cells C t fr)) (.slice (some ⟨w.heap.size, 0, none⟩) n n) xs := by
  subst hC hn
  refine ⟨_, _, rfl, Nat.le_refl _, fun _ => ⟨w.heap.size, 0, rfl, by simp, fun j hj => ?_⟩⟩
  rw [Nat.zero_add]
  unfold World.cell?
  rw [heap_alloc_self]
  simp [nth, hj]

theorem awake_read : readS (strOfNums [97, 13, 10, 98, 0, 255]) = [97, 10, 98, 65533, 65533] := by decide +kernel
theorem awake_put : Utf8.encode 8226 = ⟨#[226, 128, 162]⟩ := by decide +kernel
theorem awake_low : lowS ⟨#[65, 98, 195, 132]⟩ = ⟨#[97, 98, 195, 132]⟩ := by decide +kernel

end Go.Proofs.Ytfpgkfpehkelcaa
