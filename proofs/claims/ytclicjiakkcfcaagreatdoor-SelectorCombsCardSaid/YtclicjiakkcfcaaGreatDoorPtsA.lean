import Derived.Test.YtclicjiakkcfcaaGreatDoorRows
import Derived.WalkKit
import Derived.BigQuiet
import Derived.Deep.QuietTactic
import Derived.Lib.Hide
import Derived.WalkSmall
import Derived.Lib.OthersKept
set_option maxRecDepth 100000
set_option maxHeartbeats 400000
namespace Go.Proofs.YtclicjiakkcfcaaGreatDoor
open Go.RowKit
def sWithin (a b c : Int) : Bool := decide (b ≤ a ∧ a ≤ c)
def sLetter (r : Int) : Bool := decide ((97 ≤ r ∧ r ≤ 122) ∨ (65 ≤ r ∧ r ≤ 90) ∨ r = 95 ∨ 128 ≤ r)
def sDigit (r : Int) : Bool := decide (48 ≤ r ∧ r ≤ 57)
def sName (r : Int) : Bool := sLetter r || sDigit r || decide (r = 45)
def sWhite (r : Int) : Bool := decide (r = 10 ∨ r = 9 ∨ r = 32)
def sHexOk (r : Int) : Bool := decide ((48 ≤ r ∧ r ≤ 57) ∨ (97 ≤ r ∧ r ≤ 102) ∨ (65 ≤ r ∧ r ≤ 70))
def sHex (r : Int) : Int := if 48 ≤ r ∧ r ≤ 57 then r - 48 else if 97 ≤ r ∧ r ≤ 102 then r - 87 else if 65 ≤ r ∧ r ≤ 70 then r - 55 else 0
def sPlain (r : Int) : Int := if r = 13 ∨ r = 12 then 10 else if r = 0 then 65533 else r
theorem ret_bool {a b : Bool} (h : a = b) : Ending.returned (.bool a) = .returned (.bool b) := by rw [h]
theorem ret_int {k : IntKind} {a b : Int} (h : a = b) : Ending.returned (.int k a) = .returned (.int k b) := by rw [h]
theorem ret_ib {k : IntKind} {a b : Int} {c d : Bool} (h : a = b) (h2 : c = d) : Ending.returned (.tuple #[.int k a, .bool c]) = .returned (.tuple #[.int k b, .bool d]) := by rw [h, h2]
theorem within_any (a b c : Int) (w : World) :
    Calls Tryz.prog 82 #[.int .i32 a, .int .i32 b, .int .i32 c] w fun e w' => e = .returned (.bool (sWithin a b c)) ∧ w = w' := by
  go_enter Tryz.func82, Tryz.ntmps82
  go_wp2
  all_goals go_ret
  all_goals exact ⟨ret_bool (by grind [sWithin]), rfl⟩
theorem digit_any (a : Int) (w : World) :
    Calls Tryz.prog 124 #[.int .i32 a] w fun e w' => e = .returned (.bool (sDigit a)) ∧ w = w' := by
  go_enter Tryz.func124, Tryz.ntmps124
  go_wp2_with (go_at_call 82; refine (within_any _ _ _ _).mono ?_; rintro e w' ⟨rfl, rfl⟩)
  all_goals go_ret
  all_goals exact ⟨ret_bool (by grind [sDigit, sWithin]), rfl⟩
def nth (xs : List Int) (j : Nat) : Int := xs.getD j 0
def Rd (k : IntKind) (w : World) (v : Value) (xs : List Int) : Prop :=
 ∃ a c, v = .slice a xs.length c ∧ xs.length ≤ c ∧ (0 < xs.length → ∃ b off, a = some ⟨b, off, none⟩ ∧ b < w.heap.size ∧ ∀ j, j < xs.length → w.cell? ⟨b, off + j, none⟩ = some (.int k (nth xs j)))
theorem Rd.below {k : IntKind} {w w' : World} {v : Value} {xs : List Int} (h : Rd k w v xs) (hb : Below w.heap.size w w') : Rd k w' v xs := by
 obtain ⟨a, c, hv, hle, h⟩ := h
 refine ⟨a, c, hv, hle, fun hp => ?_⟩
 obtain ⟨b, off, ha, hlt, hc⟩ := h hp
 exact ⟨b, off, ha, Nat.lt_of_lt_of_le hlt hb.size, fun j hj => by rw [hb.cell (p := ⟨b, off + j, none⟩) hlt]; exact hc j hj⟩
theorem width_pos (s : ByteArray) (pos : Nat) (h : pos < s.size) : 1 ≤ (Utf8.decode s pos).2 := by
 by_cases ha : (s[pos]'h).toNat < 128
 · rw [decode_ascii s pos h ha]
   exact Nat.le_refl _
 · exact (decode_high s pos h (by omega)).2
theorem Rd.conv {w : World} {v : Value} {xs : List Int} (h : Rd .u8 w v xs) :
    (convert 52 9 v).run Tryz.prog w = .ok (.string (strOfNums xs)) w := by
  obtain ⟨a, c, rfl, hle, h⟩ := h
  by_cases h0 : 0 < xs.length
  · obtain ⟨b, off, rfl, _, hc⟩ := h h0
    exact run_convert_bytes_arg w _ _ Tryz.underlying52 Tryz.underlying5 b off _ c xs rfl hc _ Tryz.underlying9
  · have hx : xs = [] := List.eq_nil_of_length_eq_zero (by omega)
    subst hx
    rw [run_convert_bytes_string w _ _ _ a _ c Tryz.underlying52 Tryz.underlying5 Tryz.underlying9]
    cases a with
    | none => simp [Conv.bytesToString, strOfNums, ByteArray.empty, ByteArray.emptyWithCapacity]; rfl
    | some a =>
     rw [List.length_nil, run_bytesToString w a 0 c [] (by simp [loadCells, loadCellsFrom])]
     simp [strOfNums, ByteArray.empty, ByteArray.emptyWithCapacity]; rfl
theorem Rd.tail {k : IntKind} {w : World} {xs : List Int} {b off c n : Nat} (hle : xs.length ≤ c) (hb : b < w.heap.size) (hn : n ≤ xs.length) (hc : ∀ j, j < xs.length → w.cell? ⟨b, off + j, none⟩ = some (.int k (nth xs j))) :
    Rd k w (.slice (some ⟨b, off + n, none⟩) (xs.length - n) (c - n)) (xs.drop n) := by
  refine ⟨_, _, by rw [List.length_drop], by rw [List.length_drop]; omega, fun _ => ⟨b, off + n, rfl, hb, fun j hj => ?_⟩⟩
  rw [List.length_drop] at hj
  have := hc (n + j) (by omega)
  rw [show off + n + j = off + (n + j) by omega, this]
  congr 2
  simp [nth, List.getD_eq_getElem?_getD, List.getElem?_drop]
end Go.Proofs.YtclicjiakkcfcaaGreatDoor
