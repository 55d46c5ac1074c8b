
import Derived.Test.YtfggpenfdfklkaaGreatRows
import Derived.WalkKit
import Derived.BigQuiet
import Derived.Deep.QuietTactic
import Derived.Lib.Hide
import Derived.WalkSmall
import Derived.Lib.OthersKept
namespace Go.Proofs.YtfggpenfdfklkaaGreat
open Go.RowKit
def sWithin (a b c : Int) : Bool := decide (b ≤ a ∧ a ≤ c)
def sLetter (r : Int) : Bool := decide ((97 ≤ r ∧ r ≤ 122) ∨ (65 ≤ r ∧ r ≤ 90) ∨ r = 95 ∨ 128 ≤ r)
def sDigit (r : Int) : Bool := decide (48 ≤ r ∧ r ≤ 57)
def sName (r : Int) : Bool := sLetter r || sDigit r || decide (r = 45)
def sWhite (r : Int) : Bool := decide (r = 10 ∨ r = 9 ∨ r = 32)
def sHexOk (r : Int) : Bool := decide ((48 ≤ r ∧ r ≤ 57) ∨ (97 ≤ r ∧ r ≤ 102) ∨ (65 ≤ r ∧ r ≤ 70))
def sHex (r : Int) : Int := if 48 ≤ r ∧ r ≤ 57 then r - 48 else if 97 ≤ r ∧ r ≤ 102 then r - 87 else if 65 ≤ r ∧ r ≤ 70 then r - 55 else 0
def sPlain (r : Int) : Int := if r = 13 ∨ r = 12 then 10 else if r = 0 then 65533 else r

theorem ret_bool {a b : Bool} (h : a = b) : Ending.returned (.bool a) = .returned (.bool b) := by rw [h]
theorem ret_int {k : IntKind} {a b : Int} (h : a = b) : Ending.returned (.int k a) = .returned (.int k b) := by rw [h]
theorem ret_ib {k : IntKind} {a b : Int} {c d : Bool} (h : a = b) (h2 : c = d) : Ending.returned (.tuple #[.int k a, .bool c]) = .returned (.tuple #[.int k b, .bool d]) := by rw [h, h2]

set_option maxRecDepth 100000 in
set_option maxHeartbeats 400000 in
theorem within_any (a b c : Int) (w : World) :
    Calls Tryz.prog 86 #[.int .i32 a, .int .i32 b, .int .i32 c] w fun e w' => e = .returned (.bool (sWithin a b c)) ∧ w = w' := by
  go_enter Tryz.func86, Tryz.ntmps86
  go_wp2
  all_goals go_ret
  all_goals exact ⟨ret_bool (by grind [sWithin]), rfl⟩
theorem plain_any (a : Int) (w : World) :
    Calls Tryz.prog 54 #[.int .i32 a] w fun e w' => e = .returned (.int .i32 (sPlain a)) ∧ w = w' := by
  go_enter Tryz.func54, Tryz.ntmps54
  go_wp2
  all_goals go_ret
  all_goals exact ⟨ret_int (by grind [sPlain]), rfl⟩
theorem digit_any (a : Int) (w : World) :
    Calls Tryz.prog 108 #[.int .i32 a] w fun e w' => e = .returned (.bool (sDigit a)) ∧ w = w' := by
  go_enter Tryz.func108, Tryz.ntmps108
  go_wp2_with (go_at_call 86; refine (within_any _ _ _ _).mono ?_; rintro e w' ⟨rfl, rfl⟩)
  all_goals go_ret
  all_goals exact ⟨ret_bool (by grind [sDigit, sWithin]), rfl⟩
theorem white_any (a : Int) (w : World) :
    Calls Tryz.prog 75 #[.int .i32 a] w fun e w' => e = .returned (.bool (sWhite a)) ∧ w = w' := by
  go_enter Tryz.func75, Tryz.ntmps75
  go_wp2
  all_goals go_ret
  all_goals exact ⟨ret_bool (by grind [sWhite]), rfl⟩
theorem letter_any (a : Int) (w : World) :
    Calls Tryz.prog 111 #[.int .i32 a] w fun e w' => e = .returned (.bool (sLetter a)) ∧ w = w' := by
  go_enter Tryz.func111, Tryz.ntmps111
  go_wp2_with (go_at_call 86; refine (within_any _ _ _ _).mono ?_; rintro e w' ⟨rfl, rfl⟩)
  all_goals go_ret
  all_goals exact ⟨ret_bool (by grind [sLetter, sWithin]), rfl⟩
theorem name_any (a : Int) (w : World) :
    Calls Tryz.prog 105 #[.int .i32 a] w fun e w' => e = .returned (.bool (sName a)) ∧ w = w' := by
  go_enter Tryz.func105, Tryz.ntmps105
  go_wp2_with (first | (go_at_call 111; refine (letter_any _ _).mono ?_; rintro e w' ⟨rfl, rfl⟩) | (go_at_call 108; refine (digit_any _ _).mono ?_; rintro e w' ⟨rfl, rfl⟩))
  all_goals go_ret
  all_goals exact ⟨ret_bool (by grind [sName]), rfl⟩
theorem hex_any (a : Int) (w : World) :
    Calls Tryz.prog 128 #[.int .i32 a] w fun e w' => e = .returned (.tuple #[.int .i64 (sHex a), .bool (sHexOk a)]) ∧ w = w' := by
  go_enter Tryz.func128, Tryz.ntmps128
  go_wp2_with (first | (go_at_call 86; refine (within_any _ _ _ _).mono ?_; rintro e w' ⟨rfl, rfl⟩) | (go_at_call 108; refine (digit_any _ _).mono ?_; rintro e w' ⟨rfl, rfl⟩))
  all_goals go_ret2
  all_goals exact ⟨ret_ib (by grind [sHex, sWithin, sDigit, wrap64, wrap32]) (by grind [sHexOk, sWithin, sDigit]), rfl⟩
end Go.Proofs.YtfggpenfdfklkaaGreat
namespace Go.Proofs.YtfggpenfdfklkaaGreat
open Go.RowKit

def nth (xs : List Int) (j : Nat) : Int := xs.getD j 0
/-- A slice of integers that reads as a list. -/
def Rd (k : IntKind) (w : World) (v : Value) (xs : List Int) : Prop :=
  ∃ a c, v = .slice a xs.length c ∧ xs.length ≤ c ∧ (0 < xs.length → ∃ b off, a = some ⟨b, off, none⟩ ∧ b < w.heap.size ∧ ∀ j, j < xs.length → w.cell? ⟨b, off + j, none⟩ = some (.int k (nth xs j)))

theorem Rd.below {k : IntKind} {w w' : World} {v : Value} {xs : List Int} (h : Rd k w v xs) (hb : Below w.heap.size w w') : Rd k w' v xs := by
  obtain ⟨a, c, hv, hle, h⟩ := h
  refine ⟨a, c, hv, hle, fun hp => ?_⟩
  obtain ⟨b, off, ha, hlt, hc⟩ := h hp
  exact ⟨b, off, ha, Nat.lt_of_lt_of_le hlt hb.size, fun j hj => by rw [hb.cell (p := ⟨b, off + j, none⟩) hlt]; exact hc j hj⟩

theorem list_ext_getD {xs ys : List Int} (hl : xs.length = ys.length) (h : ∀ j, j < xs.length → nth xs j = nth ys j) : xs = ys := by
  apply List.ext_getElem hl
  intro i h1 h2
  have := h i h1
  simpa [nth, List.getD_eq_getElem?_getD, h1, h2] using this


end Go.Proofs.YtfggpenfdfklkaaGreat
namespace Go.Proofs.YtfggpenfdfklkaaGreat
open Go.RowKit

/-- A count that is at most so many. -/
def SomeNat (m : Nat) (e : Ending) : Prop := ∃ n : Nat, n ≤ m ∧ e = .returned (.int .i64 n)

theorem width_pos (s : ByteArray) (pos : Nat) (h : pos < s.size) : 1 ≤ (Utf8.decode s pos).2 := by
  by_cases ha : (s[pos]'h).toNat < 128
  · rw [decode_ascii s pos h ha]
    exact Nat.le_refl _
  · exact (decode_high s pos h (by omega)).2

theorem countS_any (s : ByteArray) (w : World) (hs : s.size ≤ 140737488355328) :
    Calls Tryz.prog 85 #[.string s] w fun e w' => SomeNat s.size e ∧ Below w.heap.size w w' := by
  go_enter Tryz.func85, Tryz.ntmps85
  go_wp2
  go_loopw [2] (fun n w' => ∃ (pos acc : Nat), w' = w.iter s pos ∧ n = .int .i64 acc ∧ acc ≤ pos ∧ acc ≤ s.size) (fun _ w' => s.size - w'.iterPos w.heap.size)
  case atStart => exact ⟨0, 0, rfl, rfl, Nat.le_refl _, Nat.zero_le _⟩
  case round =>
    obtain ⟨pos, acc, rfl, rfl, ha, ha2⟩ := hrel
    by_cases hp : pos < s.size
    · have hnx : ∀ ty, (Instr.next (.pointer (some ⟨w.heap.size, 0, none⟩)) true ty).run Tryz.prog (w.iter s pos) = _ := fun ty => run_next_any w s pos ty hp
      have hwd := width_pos s pos hp
      go_wp2
      go_roundw
      case rel => exact ⟨pos + (Utf8.decode s pos).2, acc + 1, rfl, by go_num, by omega, by omega⟩
      case measure =>
        simp
        omega
    · have hnx : ∀ ty, (Instr.next (.pointer (some ⟨w.heap.size, 0, none⟩)) true ty).run Tryz.prog (w.iter s pos) = _ := fun ty => run_next_end w s pos ty hp
      go_wp2
      go_ret
      exact ⟨⟨acc, ha2, rfl⟩, (Below.refl _ _).alloc (Nat.le_refl _) _⟩

theorem Rd.conv {w : World} {v : Value} {xs : List Int} (h : Rd .u8 w v xs) :
    (convert 22 9 v).run Tryz.prog w = .ok (.string (strOfNums xs)) w := by
  obtain ⟨a, c, rfl, hle, h⟩ := h
  by_cases h0 : 0 < xs.length
  · obtain ⟨b, off, rfl, _, hc⟩ := h h0
    exact run_convert_bytes_arg w _ _ Tryz.underlying22 Tryz.underlying5 b off _ c xs rfl hc _ Tryz.underlying9
  · have hx : xs = [] := List.eq_nil_of_length_eq_zero (by omega)
    subst hx
    rw [run_convert_bytes_string w _ _ _ a _ c Tryz.underlying22 Tryz.underlying5 Tryz.underlying9]
    cases a with
    | none => simp [Conv.bytesToString, strOfNums, ByteArray.empty, ByteArray.emptyWithCapacity]; rfl
    | some a =>
      rw [List.length_nil, run_bytesToString w a 0 c [] (by simp [loadCells, loadCellsFrom])]
      simp [strOfNums, ByteArray.empty, ByteArray.emptyWithCapacity]; rfl

/-- The tail of a slice of integers. -/
theorem Rd.tail {k : IntKind} {w : World} {xs : List Int} {b off c n : Nat} (hle : xs.length ≤ c) (hb : b < w.heap.size) (hn : n ≤ xs.length) (hc : ∀ j, j < xs.length → w.cell? ⟨b, off + j, none⟩ = some (.int k (nth xs j))) :
    Rd k w (.slice (some ⟨b, off + n, none⟩) (xs.length - n) (c - n)) (xs.drop n) := by
  refine ⟨_, _, by rw [List.length_drop], by rw [List.length_drop]; omega, fun _ => ⟨b, off + n, rfl, hb, fun j hj => ?_⟩⟩
  rw [List.length_drop] at hj
  have := hc (n + j) (by omega)
  rw [show off + n + j = off + (n + j) by omega, this]
  congr 2
  simp [nth, List.getD_eq_getElem?_getD, List.getElem?_drop]

set_option maxRecDepth 100000 in
set_option maxHeartbeats 800000 in
theorem count_any (xs : List Int) (v : Value) (w : World) (hv : Rd .u8 w v xs) (hs : xs.length ≤ 140737488355328) :
    Calls Tryz.prog 53 #[v] w fun e w' => SomeNat xs.length e ∧ Below w.heap.size w w' := by
  obtain ⟨a, c, rfl, hle, h⟩ := hv
  by_cases h0 : 0 < xs.length
  · obtain ⟨b, off, rfl, hb, hc⟩ := h h0
    have HC := Lib.hid hc
    clear hc h
    go_enter Tryz.func53, Tryz.ntmps53
    go_wp2
    go_loopw [4] (fun i wr => ∃ k : Nat, k ≤ xs.length ∧ i = .int .i64 k ∧ wr = w) (fun i _ => xs.length - (intOf i).toNat)
    case atStart => exact ⟨0, Nat.zero_le _, rfl, rfl⟩
    case round =>
      obtain ⟨k, hk, rfl, rfl⟩ := hrel
      by_cases hlt : k < xs.length
      · have e1 := HC.out k hlt
        by_cases hhi : 128 ≤ nth xs k
        · have hlt3 : k < c := by omega
          have hcv := Rd.conv (Rd.tail (n := k) hle hb hk HC.out)
          have hz : (strOfNums (xs.drop k)).size = xs.length - k := by rw [strOfNums_size, List.length_drop]
          have HZ := Lib.hid hz
          clear hz
          go_wp2_with (go_at_call 85; refine (countS_any _ _ (by rw [HZ.out]; omega)).mono ?_; rintro e w' ⟨⟨n, hn, rfl⟩, hb2⟩)
          have hkn : k + n ≤ xs.length := by have := HZ.out; omega
          go_ret
          refine ⟨⟨k + n, hkn, ?_⟩, hb2⟩
          congr 2
          simp [wrap64]
          omega
        · go_wp2
          go_roundw
          case rel => exact ⟨k + 1, by omega, by go_num, trivial⟩
          case measure => simp [intOf]; omega
      · go_wp2
        go_ret
        exact ⟨⟨k, by omega, rfl⟩, Below.refl _ _⟩
  · have hx : xs = [] := List.eq_nil_of_length_eq_zero (by omega)
    subst hx
    clear h
    go_enter Tryz.func53, Tryz.ntmps53
    go_wp2
    refine wp_loop_rounds 1 ?_
    rw [rounds_succ]
    go_wp2
    go_ret
    exact ⟨⟨0, by simp, rfl⟩, Below.refl _ _⟩
end Go.Proofs.YtfggpenfdfklkaaGreat
