import Derived.Test.YtbmbjbfgphhhcaaPtsB
namespace Go.Proofs.Ytbmbjbfgphhhcaa
open Go.RowKit

/-- A count that is at most so many. -/
def SomeNat (m : Nat) (e : Ending) : Prop := ∃ n : Nat, n ≤ m ∧ e = .returned (.int .i64 n)

theorem width_pos (s : ByteArray) (pos : Nat) (h : pos < s.size) : 1 ≤ (Utf8.decode s pos).2 := by
  by_cases ha : (s[pos]'h).toNat < 128
  · rw [decode_ascii s pos h ha]
    exact Nat.le_refl _
  · exact (decode_high s pos h (by omega)).2

theorem countS_any (s : ByteArray) (w : World) (hs : s.size ≤ 140737488355328) :
    Calls Try.prog 29 #[.string s] w fun e w' => SomeNat s.size e ∧ Below w.heap.size w w' := by
  go_enter Try.func29, Try.ntmps29
  go_wp2
  go_loopw [2] (fun n w' => ∃ (pos acc : Nat), w' = w.iter s pos ∧ n = .int .i64 acc ∧ acc ≤ pos ∧ acc ≤ s.size) (fun _ w' => s.size - w'.iterPos w.heap.size)
  case atStart => exact ⟨0, 0, rfl, rfl, Nat.le_refl _, Nat.zero_le _⟩
  case round =>
    obtain ⟨pos, acc, rfl, rfl, ha, ha2⟩ := hrel
    by_cases hp : pos < s.size
    · have hnx : ∀ ty, (Instr.next (.pointer (some ⟨w.heap.size, 0, none⟩)) true ty).run Try.prog (w.iter s pos) = _ := fun ty => run_next_any w s pos ty hp
      have hwd := width_pos s pos hp
      go_wp2
      go_roundw
      case rel => exact ⟨pos + (Utf8.decode s pos).2, acc + 1, rfl, by go_num, by omega, by omega⟩
      case measure =>
        simp
        omega
    · have hnx : ∀ ty, (Instr.next (.pointer (some ⟨w.heap.size, 0, none⟩)) true ty).run Try.prog (w.iter s pos) = _ := fun ty => run_next_end w s pos ty hp
      go_wp2
      go_ret
      exact ⟨⟨acc, ha2, rfl⟩, (Below.refl _ _).alloc (Nat.le_refl _) _⟩

theorem Rd.conv {w : World} {v : Value} {xs : List Int} (h : Rd .u8 w v xs) :
    (convert 22 9 v).run Try.prog w = .ok (.string (strOfNums xs)) w := by
  obtain ⟨a, c, rfl, hle, h⟩ := h
  by_cases h0 : 0 < xs.length
  · obtain ⟨b, off, rfl, _, hc⟩ := h h0
    exact run_convert_bytes_arg w _ _ Try.underlying22 Try.underlying5 b off _ c xs rfl hc _ Try.underlying9
  · have hx : xs = [] := List.eq_nil_of_length_eq_zero (by omega)
    subst hx
    rw [run_convert_bytes_string w _ _ _ a _ c Try.underlying22 Try.underlying5 Try.underlying9]
    cases a with
    | none => simp [Conv.bytesToString, strOfNums, ByteArray.empty, ByteArray.emptyWithCapacity]; rfl
    | some a =>
      rw [List.length_nil, run_bytesToString w a 0 c [] (by simp [loadCells, loadCellsFrom])]
      simp [strOfNums, ByteArray.empty, ByteArray.emptyWithCapacity]; rfl

/-- The tail of a slice of integers. -/
theorem Rd.tail {k : IntKind} {w : World} {xs : List Int} {b off c n : Nat} (hle : xs.length ≤ c) (hb : b < w.heap.size) (hn : n ≤ xs.length) (hc : ∀ j, j < xs.length → w.cell? ⟨b, off + j, none⟩ = some (.int k (nth xs j))) :
    Rd k w (.slice (some ⟨b, off + n, none⟩) (xs.length - n) (c - n)) (xs.drop n) := by
  refine ⟨_, _, by rw [List.length_drop], by rw [List.length_drop]; omega, fun _ => ⟨b, off + n, rfl, hb, fun j hj => ?_⟩⟩
  rw [List.length_drop] at hj
  have := hc (n + j) (by omega)
  rw [show off + n + j = off + (n + j) by omega, this]
  congr 2
  simp [nth, List.getD_eq_getElem?_getD, List.getElem?_drop]

set_option maxHeartbeats 800000 in
theorem count_any (xs : List Int) (v : Value) (w : World) (hv : Rd .u8 w v xs) (hs : xs.length ≤ 140737488355328) :
    Calls Try.prog 27 #[v] w fun e w' => SomeNat xs.length e ∧ Below w.heap.size w w' := by
  obtain ⟨a, c, rfl, hle, h⟩ := hv
  by_cases h0 : 0 < xs.length
  · obtain ⟨b, off, rfl, hb, hc⟩ := h h0
    have HC := Lib.hid hc
    clear hc h
    go_enter Try.func27, Try.ntmps27
    go_wp2
    go_loopw [4] (fun i wr => ∃ k : Nat, k ≤ xs.length ∧ i = .int .i64 k ∧ wr = w) (fun i _ => xs.length - (intOf i).toNat)
    case atStart => exact ⟨0, Nat.zero_le _, rfl, rfl⟩
    case round =>
      obtain ⟨k, hk, rfl, rfl⟩ := hrel
      by_cases hlt : k < xs.length
      · have e1 := HC.out k hlt
        by_cases hhi : 128 ≤ nth xs k
        · have hlt3 : k < c := by omega
          have hcv := Rd.conv (Rd.tail (n := k) hle hb hk HC.out)
          have hz : (strOfNums (xs.drop k)).size = xs.length - k := by rw [strOfNums_size, List.length_drop]
          have HZ := Lib.hid hz
          clear hz
          go_wp2_with (go_at_call 29; refine (countS_any _ _ (by rw [HZ.out]; omega)).mono ?_; rintro e w' ⟨⟨n, hn, rfl⟩, hb2⟩)
          have hkn : k + n ≤ xs.length := by have := HZ.out; omega
          go_ret
          refine ⟨⟨k + n, hkn, ?_⟩, hb2⟩
          congr 2
          simp [wrap64]
          omega
        · go_wp2
          go_roundw
          case rel => exact ⟨k + 1, by omega, by go_num, trivial⟩
          case measure => simp [intOf]; omega
      · go_wp2
        go_ret
        exact ⟨⟨k, by omega, rfl⟩, Below.refl _ _⟩
  · have hx : xs = [] := List.eq_nil_of_length_eq_zero (by omega)
    subst hx
    clear h
    go_enter Try.func27, Try.ntmps27
    go_wp2
    refine wp_loop_rounds 1 ?_
    rw [rounds_succ]
    go_wp2
    go_ret
    exact ⟨⟨0, by simp, rfl⟩, Below.refl _ _⟩
end Go.Proofs.Ytbmbjbfgphhhcaa
