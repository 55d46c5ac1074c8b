
import Derived.Test.YtfpgkfpehkelcaaPtsB
namespace Go.Proofs.Ytfpgkfpehkelcaa
open Go.RowKit

/-- A count that is at most so many. -/
def SomeNat (m : Nat) (e : Ending) : Prop := ∃ n : Nat, n ≤ m ∧ e = .returned (.int .i64 n)

theorem width_pos (s : ByteArray) (pos : Nat) (h : pos < s.size) : 1 ≤ (Utf8.decode s pos).2 := by
  by_cases ha : (s[pos]'h).toNat < 128
  · rw [decode_ascii s pos h ha]
    exact Nat.le_refl _
  · exact (decode_high s pos h (by omega)).2

theorem Rd.conv {w : World} {v : Value} {xs : List Int} (h : Rd .u8 w v xs) :
    (convert 46 9 v).run Try.prog w = .ok (.string (strOfNums xs)) w := by
  obtain ⟨a, c, rfl, hle, h⟩ := h
  by_cases h0 : 0 < xs.length
  · obtain ⟨b, off, rfl, _, hc⟩ := h h0
    exact run_convert_bytes_arg w _ _ Try.underlying46 Try.underlying5 b off _ c xs rfl hc _ Try.underlying9
  · have hx : xs = [] := List.eq_nil_of_length_eq_zero (by omega)
    subst hx
    rw [run_convert_bytes_string w _ _ _ a _ c Try.underlying46 Try.underlying5 Try.underlying9]
    cases a with
    | none => simp [Conv.bytesToString, strOfNums, ByteArray.empty, ByteArray.emptyWithCapacity]; rfl
    | some a =>
      rw [List.length_nil, run_bytesToString w a 0 c [] (by simp [loadCells, loadCellsFrom])]
      simp [strOfNums, ByteArray.empty, ByteArray.emptyWithCapacity]; rfl

/-- The tail of a slice of integers. -/
theorem Rd.tail {k : IntKind} {w : World} {xs : List Int} {b off c n : Nat} (hle : xs.length ≤ c) (hb : b < w.heap.size) (hn : n ≤ xs.length) (hc : ∀ j, j < xs.length → w.cell? ⟨b, off + j, none⟩ = some (.int k (nth xs j))) :
    Rd k w (.slice (some ⟨b, off + n, none⟩) (xs.length - n) (c - n)) (xs.drop n) := by
  refine ⟨_, _, by rw [List.length_drop], by rw [List.length_drop]; omega, fun _ => ⟨b, off + n, rfl, hb, fun j hj => ?_⟩⟩
  rw [List.length_drop] at hj
  have := hc (n + j) (by omega)
  rw [show off + n + j = off + (n + j) by omega, this]
  congr 2
  simp [nth, List.getD_eq_getElem?_getD, List.getElem?_drop]

end Go.Proofs.Ytfpgkfpehkelcaa
