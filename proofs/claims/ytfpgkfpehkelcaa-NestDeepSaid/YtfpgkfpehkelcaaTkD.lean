
import Derived.Test.YtfpgkfpehkelcaaTkC
import Derived.Laws.BitsAllLaws
import Derived.Laws.BitsLemmas
namespace Go.Proofs.Ytfpgkfpehkelcaa
open Go.RowKit

/-- How many signs of n are still to come. -/
def left (g n : Nat) (w : World) : Nat := n - (intOf ((w.cell? ⟨g, 1, none⟩).getD undef)).toNat
theorem Now.left {T : TypeId} {g : Nat} {v : Value} {xs r : List Int} {w0 w : World} (h : Now T g v xs r w0 w) : left g xs.length w = r.length := by
  have := h.st.rlen
  unfold Go.Proofs.Ytfpgkfpehkelcaa.left
  rw [h.st.cell1]
  simp [intOf]
  omega

theorem or16 (x d : Int) (hx : 0 ≤ x) (hx2 : x ≤ 16777216) (hd : 0 ≤ d) (hd2 : d < 16) : bits .or .i64 (x * 16) d = x * 16 + d := by
  obtain ⟨a, rfl⟩ : ∃ a : Nat, x = a := ⟨x.toNat, by omega⟩
  obtain ⟨b, rfl⟩ : ∃ b : Nat, d = b := ⟨d.toNat, by omega⟩
  have e1 : (BitVec.ofInt 64 ((a : Int) * 16)).toNat = a * 16 := by
    rw [show ((a : Int) * 16) = ((a * 16 : Nat) : Int) by omega, BitVec.ofInt_natCast, BitVec.toNat_ofNat]
    exact Nat.mod_eq_of_lt (by omega)
  have e2 : (BitVec.ofInt 64 (b : Int)).toNat = b := by
    rw [BitVec.ofInt_natCast, BitVec.toNat_ofNat]
    exact Nat.mod_eq_of_lt (by omega)
  have e3 : a * 16 ||| b = a * 16 + b := by
    have := Nat.shiftLeft_add_eq_or_of_lt (show b < 2 ^ 4 by omega) a
    rw [Nat.shiftLeft_eq] at this
    exact this.symm
  show IntKind.i64.wrap ((BitVec.ofInt 64 ((a : Int) * 16) ||| BitVec.ofInt 64 (b : Int)).toNat : Int) = _
  rw [BitVec.toNat_or, e1, e2, e3, IntKind.wrap_i64]
  omega

theorem sHex_bd (x : Int) : 0 ≤ sHex x ∧ sHex x < 16 := by
  unfold sHex
  split
  · omega
  · split
    · omega
    · split <;> omega

section
variable {g : Nat} {v : Value} {xs r : List Int} {w0 w : World}
theorem valid_any (a : Int) (w : World) :
    Calls Try.prog 92 #[.int .i32 a] w fun e w' => e = .returned (.bool (decide ((0 ≤ a ∧ a < 55296) ∨ (57343 < a ∧ a ≤ 1114111)))) ∧ w = w' := by
  go_enter Try.func92, Try.ntmps92
  go_wp2
  all_goals go_ret
  all_goals exact ⟨ret_bool (by grind), rfl⟩
theorem meant_any (a : Int) (w : World) (h : 0 ≤ a ∧ a ≤ 16777215) :
    Calls Try.prog 84 #[.int .i64 a] w fun e w' => e = .returned (.int .i32 (meantS a)) ∧ w = w' := by
  obtain ⟨h1, h2⟩ := h
  go_enter Try.func84, Try.ntmps84
  go_wp2_with (first | (go_at_call 92; (with_reducible refine (valid_any _ _).mono ?_); rintro e w1 ⟨rfl, rfl⟩))
  all_goals go_ret
  all_goals exact ⟨ret_int (by grind [meantS]), rfl⟩
theorem escapes_0 (h : Now 57 g v xs r w0 w) :
    Calls Try.prog 66 #[.pointer (some ⟨g, 0, none⟩), .int .i64 0] w fun e w' => e = .returned (.bool (esc r 0)) ∧ Now 57 g v xs r w0 w' := by
  go_enter Try.func66, Try.ntmps66
  go_wp2_with (first | (go_at_call 41; (with_reducible refine (ahead_0 (by repeat (first | assumption | refine Now.alloc ?_ _ | refine Now.set ?_ (by simp; omega) _))).mono ?_); rintro e w1 ⟨rfl, h1⟩) | (go_at_call 41; (with_reducible refine (ahead_1 (by repeat (first | assumption | refine Now.alloc ?_ _ | refine Now.set ?_ (by simp; omega) _))).mono ?_); rintro e w1 ⟨rfl, h1⟩))
  all_goals go_ret
  all_goals exact ⟨ret_bool (by grind [esc]), by assumption⟩
theorem escapes_1 (h : Now 57 g v xs r w0 w) :
    Calls Try.prog 66 #[.pointer (some ⟨g, 0, none⟩), .int .i64 1] w fun e w' => e = .returned (.bool (esc r 1)) ∧ Now 57 g v xs r w0 w' := by
  go_enter Try.func66, Try.ntmps66
  go_wp2_with (first | (go_at_call 41; (with_reducible refine (ahead_1 (by repeat (first | assumption | refine Now.alloc ?_ _ | refine Now.set ?_ (by simp; omega) _))).mono ?_); rintro e w1 ⟨rfl, h1⟩) | (go_at_call 41; (with_reducible refine (ahead_2 (by repeat (first | assumption | refine Now.alloc ?_ _ | refine Now.set ?_ (by simp; omega) _))).mono ?_); rintro e w1 ⟨rfl, h1⟩))
  all_goals go_ret
  all_goals exact ⟨ret_bool (by grind [esc]), by assumption⟩
theorem escapes_2 (h : Now 57 g v xs r w0 w) :
    Calls Try.prog 66 #[.pointer (some ⟨g, 0, none⟩), .int .i64 2] w fun e w' => e = .returned (.bool (esc r 2)) ∧ Now 57 g v xs r w0 w' := by
  go_enter Try.func66, Try.ntmps66
  go_wp2_with (first | (go_at_call 41; (with_reducible refine (ahead_2 (by repeat (first | assumption | refine Now.alloc ?_ _ | refine Now.set ?_ (by simp; omega) _))).mono ?_); rintro e w1 ⟨rfl, h1⟩) | (go_at_call 41; (with_reducible refine (ahead_3 (by repeat (first | assumption | refine Now.alloc ?_ _ | refine Now.set ?_ (by simp; omega) _))).mono ?_); rintro e w1 ⟨rfl, h1⟩))
  all_goals go_ret
  all_goals exact ⟨ret_bool (by grind [esc]), by assumption⟩
theorem nbg_0 (h : Now 57 g v xs r w0 w) :
    Calls Try.prog 49 #[.pointer (some ⟨g, 0, none⟩), .int .i64 0] w fun e w' => e = .returned (.bool (nbg r 0)) ∧ Now 57 g v xs r w0 w' := by
  go_enter Try.func49, Try.ntmps49
  go_wp2_with (first | (go_at_call 41; (with_reducible refine (ahead_0 (by repeat (first | assumption | refine Now.alloc ?_ _ | refine Now.set ?_ (by simp; omega) _))).mono ?_); rintro e w1 ⟨rfl, h1⟩) | (go_at_call 41; (with_reducible refine (ahead_1 (by repeat (first | assumption | refine Now.alloc ?_ _ | refine Now.set ?_ (by simp; omega) _))).mono ?_); rintro e w1 ⟨rfl, h1⟩) | (go_at_call 73; (with_reducible refine (letter_any _ _).mono ?_); rintro e w1 ⟨rfl, rfl⟩) | (go_at_call 66; (with_reducible refine (escapes_0 (by repeat (first | assumption | refine Now.alloc ?_ _ | refine Now.set ?_ (by simp; omega) _))).mono ?_); rintro e w1 ⟨rfl, h1⟩) | (go_at_call 66; (with_reducible refine (escapes_1 (by repeat (first | assumption | refine Now.alloc ?_ _ | refine Now.set ?_ (by simp; omega) _))).mono ?_); rintro e w1 ⟨rfl, h1⟩))
  all_goals go_ret
  all_goals exact ⟨ret_bool (by grind [nbg]), by assumption⟩
theorem nbg_1 (h : Now 57 g v xs r w0 w) :
    Calls Try.prog 49 #[.pointer (some ⟨g, 0, none⟩), .int .i64 1] w fun e w' => e = .returned (.bool (nbg r 1)) ∧ Now 57 g v xs r w0 w' := by
  go_enter Try.func49, Try.ntmps49
  go_wp2_with (first | (go_at_call 41; (with_reducible refine (ahead_1 (by repeat (first | assumption | refine Now.alloc ?_ _ | refine Now.set ?_ (by simp; omega) _))).mono ?_); rintro e w1 ⟨rfl, h1⟩) | (go_at_call 41; (with_reducible refine (ahead_2 (by repeat (first | assumption | refine Now.alloc ?_ _ | refine Now.set ?_ (by simp; omega) _))).mono ?_); rintro e w1 ⟨rfl, h1⟩) | (go_at_call 73; (with_reducible refine (letter_any _ _).mono ?_); rintro e w1 ⟨rfl, rfl⟩) | (go_at_call 66; (with_reducible refine (escapes_1 (by repeat (first | assumption | refine Now.alloc ?_ _ | refine Now.set ?_ (by simp; omega) _))).mono ?_); rintro e w1 ⟨rfl, h1⟩) | (go_at_call 66; (with_reducible refine (escapes_2 (by repeat (first | assumption | refine Now.alloc ?_ _ | refine Now.set ?_ (by simp; omega) _))).mono ?_); rintro e w1 ⟨rfl, h1⟩))
  all_goals go_ret
  all_goals exact ⟨ret_bool (by grind [nbg]), by assumption⟩

theorem wh_white {r : List Int} (h : sWhite (ah r 0) = true) : wh r = wh (dp 1 r) := by
  cases r with
  | nil => rfl
  | cons a t => simp at h; simp [wh, dp, h]
theorem wh_else {r : List Int} (h : sWhite (ah r 0) = false) : wh r = r := by
  cases r with
  | nil => rfl
  | cons a t => simp at h; simp [wh, h]
theorem wh_suf (r : List Int) : wh r <:+ r := List.dropWhile_suffix _
theorem wh_len (r : List Int) : (wh r).length ≤ r.length := (wh_suf r).length_le

set_option maxRecDepth 100000 in
set_option maxHeartbeats 400000 in
theorem whiteW_any (h : Now 57 g v xs r w0 w) :
    Calls Try.prog 43 #[.pointer (some ⟨g, 0, none⟩)] w fun e w' => e = .returned (.int .i64 (r.length - (wh r).length)) ∧ Now 57 g v xs (wh r) w0 w' := by
  have c1 := h.st.cell1
  have hr := h.st.rlen
  have hl := h.st.len
  go_enter Try.func43, Try.ntmps43
  go_wp2
  clear c1
  go_loopw [] (fun wr => ∃ q, wh q = wh r ∧ Now 57 g v xs q w0 wr) (fun wr => left g xs.length wr)
  case atStart => exact ⟨r, rfl, h⟩
  case round =>
    obtain ⟨q, hq, hn⟩ := hrel
    have HQ := Lib.hid hq
    clear hq
    by_cases hw : sWhite (ah q 0) = true
    · have hlq := len_of_white hw
      have HW := Lib.hid hw
      go_wp2_with (first | (go_at_call 41; (with_reducible refine (ahead_0 (by repeat (first | assumption | refine Now.alloc ?_ _ | refine Now.set ?_ (by simp; omega) _))).mono ?_); rintro e w1 ⟨rfl, h1⟩) | (go_at_call 42; (with_reducible refine (white_any _ _).mono ?_); rintro e w1 ⟨rfl, rfl⟩) | (go_at_call 39; (with_reducible refine (skip_1 (by repeat (first | assumption | refine Now.alloc ?_ _ | refine Now.set ?_ (by simp; omega) _)) ?_).mono ?_); (first | assumption | grind [ah_end]); rintro e w1 ⟨rfl, h1⟩))
      go_roundw
      case rel => exact ⟨dp 1 q, by rw [← wh_white HW.out, HQ.out], by assumption⟩
      case measure =>
        rw [h1.left, hn.left, dp_len]
        omega
    · have hqe : q = wh r := by rw [← HQ.out, wh_else (by simpa using hw)]
      subst hqe
      have hl2 := hn.st.rlen
      have hl3 := wh_len r
      have HW := Lib.hid hw
      go_wp2_with (first | (go_at_call 41; refine (ahead_0 (by repeat (first | assumption | refine Now.alloc ?_ _ | refine Now.set ?_ (by simp; omega) _))).mono ?_; rintro e w1 ⟨rfl, h1⟩; have c1 := h1.st.cell1) | (first | (go_at_call 42; (with_reducible refine (white_any _ _).mono ?_); rintro e w1 ⟨rfl, rfl⟩)))
      go_ret
      exact ⟨ret_int (by omega), by assumption⟩
end
end Go.Proofs.Ytfpgkfpehkelcaa
