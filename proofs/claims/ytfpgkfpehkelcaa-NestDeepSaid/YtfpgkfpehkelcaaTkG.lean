
import Derived.Test.YtfpgkfpehkelcaaTkF
namespace Go.Proofs.Ytfpgkfpehkelcaa
open Go.RowKit

def sgn (r : List Int) (n : Nat) : Bool := decide (ah r n = 43 ∨ ah r n = 45)
def frac (r : List Int) (n : Nat) : Bool := decide (ah r n = 46) && sDigit (ah r (n + 1))
def numB (r : List Int) : Bool := if sgn r 0 then sDigit (ah r 1) || frac r 1 else sDigit (ah r 0) || frac r 0
def expo (r : List Int) : Nat := if ah r 0 = 101 ∨ ah r 0 = 69 then (if sgn r 1 then (if sDigit (ah r 2) then 2 else 0) else (if sDigit (ah r 1) then 1 else 0)) else 0
def cnt (r : List Int) : List Int := r.dropWhile sDigit

theorem cnt_yes {r : List Int} (h : sDigit (ah r 0) = true) : cnt r = cnt (dp 1 r) := by
  cases r with
  | nil => rfl
  | cons a t => simp at h; simp [cnt, dp, h]
theorem cnt_no {r : List Int} (h : sDigit (ah r 0) = false) : cnt r = r := by
  cases r with
  | nil => rfl
  | cons a t => simp at h; simp [cnt, h]
theorem cnt_suf (r : List Int) : cnt r <:+ r := List.dropWhile_suffix _

section
variable {g : Nat} {v : Value} {xs r : List Int} {w0 w : World}
theorem signed_0 (h : Now 57 g v xs r w0 w) :
    Calls Try.prog 70 #[.pointer (some ⟨g, 0, none⟩), .int .i64 0] w fun e w' => e = .returned (.bool (sgn r 0)) ∧ Now 57 g v xs r w0 w' := by
  go_enter Try.func70, Try.ntmps70
  go_wp2_with (first | (go_at_call 41; (with_reducible refine (ahead_0 (by repeat (first | assumption | refine Now.alloc ?_ _ | refine Now.set ?_ (by simp; omega) _))).mono ?_); rintro e w1 ⟨rfl, h1⟩))
  all_goals go_ret
  all_goals exact ⟨ret_bool (by grind [sgn]), by assumption⟩
theorem signed_1 (h : Now 57 g v xs r w0 w) :
    Calls Try.prog 70 #[.pointer (some ⟨g, 0, none⟩), .int .i64 1] w fun e w' => e = .returned (.bool (sgn r 1)) ∧ Now 57 g v xs r w0 w' := by
  go_enter Try.func70, Try.ntmps70
  go_wp2_with (first | (go_at_call 41; (with_reducible refine (ahead_1 (by repeat (first | assumption | refine Now.alloc ?_ _ | refine Now.set ?_ (by simp; omega) _))).mono ?_); rintro e w1 ⟨rfl, h1⟩))
  all_goals go_ret
  all_goals exact ⟨ret_bool (by grind [sgn]), by assumption⟩
theorem frac_0 (h : Now 57 g v xs r w0 w) :
    Calls Try.prog 71 #[.pointer (some ⟨g, 0, none⟩), .int .i64 0] w fun e w' => e = .returned (.bool (frac r 0)) ∧ Now 57 g v xs r w0 w' := by
  go_enter Try.func71, Try.ntmps71
  go_wp2_with (first | (go_at_call 41; (with_reducible refine (ahead_0 (by repeat (first | assumption | refine Now.alloc ?_ _ | refine Now.set ?_ (by simp; omega) _))).mono ?_); rintro e w1 ⟨rfl, h1⟩) | (go_at_call 41; (with_reducible refine (ahead_1 (by repeat (first | assumption | refine Now.alloc ?_ _ | refine Now.set ?_ (by simp; omega) _))).mono ?_); rintro e w1 ⟨rfl, h1⟩) | (go_at_call 37; (with_reducible refine (digit_any _ _).mono ?_); rintro e w1 ⟨rfl, rfl⟩))
  all_goals go_ret
  all_goals exact ⟨ret_bool (by grind [frac]), by assumption⟩
theorem frac_1 (h : Now 57 g v xs r w0 w) :
    Calls Try.prog 71 #[.pointer (some ⟨g, 0, none⟩), .int .i64 1] w fun e w' => e = .returned (.bool (frac r 1)) ∧ Now 57 g v xs r w0 w' := by
  go_enter Try.func71, Try.ntmps71
  go_wp2_with (first | (go_at_call 41; (with_reducible refine (ahead_1 (by repeat (first | assumption | refine Now.alloc ?_ _ | refine Now.set ?_ (by simp; omega) _))).mono ?_); rintro e w1 ⟨rfl, h1⟩) | (go_at_call 41; (with_reducible refine (ahead_2 (by repeat (first | assumption | refine Now.alloc ?_ _ | refine Now.set ?_ (by simp; omega) _))).mono ?_); rintro e w1 ⟨rfl, h1⟩) | (go_at_call 37; (with_reducible refine (digit_any _ _).mono ?_); rintro e w1 ⟨rfl, rfl⟩))
  all_goals go_ret
  all_goals exact ⟨ret_bool (by grind [frac]), by assumption⟩
theorem numB_any (h : Now 57 g v xs r w0 w) :
    Calls Try.prog 47 #[.pointer (some ⟨g, 0, none⟩)] w fun e w' => e = .returned (.bool (numB r)) ∧ Now 57 g v xs r w0 w' := by
  go_enter Try.func47, Try.ntmps47
  go_wp2_with (first | (go_at_call 70; (with_reducible refine (signed_0 (by repeat (first | assumption | refine Now.alloc ?_ _ | refine Now.set ?_ (by simp; omega) _))).mono ?_); rintro e w1 ⟨rfl, h1⟩) | (go_at_call 41; (with_reducible refine (ahead_0 (by repeat (first | assumption | refine Now.alloc ?_ _ | refine Now.set ?_ (by simp; omega) _))).mono ?_); rintro e w1 ⟨rfl, h1⟩) | (go_at_call 41; (with_reducible refine (ahead_1 (by repeat (first | assumption | refine Now.alloc ?_ _ | refine Now.set ?_ (by simp; omega) _))).mono ?_); rintro e w1 ⟨rfl, h1⟩) | (go_at_call 37; (with_reducible refine (digit_any _ _).mono ?_); rintro e w1 ⟨rfl, rfl⟩) | (go_at_call 71; (with_reducible refine (frac_0 (by repeat (first | assumption | refine Now.alloc ?_ _ | refine Now.set ?_ (by simp; omega) _))).mono ?_); rintro e w1 ⟨rfl, h1⟩) | (go_at_call 71; (with_reducible refine (frac_1 (by repeat (first | assumption | refine Now.alloc ?_ _ | refine Now.set ?_ (by simp; omega) _))).mono ?_); rintro e w1 ⟨rfl, h1⟩))
  all_goals go_ret
  all_goals exact ⟨ret_bool (by grind [numB]), by assumption⟩
theorem expo_any (h : Now 57 g v xs r w0 w) :
    Calls Try.prog 86 #[.pointer (some ⟨g, 0, none⟩)] w fun e w' => e = .returned (.int .i64 (expo r)) ∧ Now 57 g v xs r w0 w' := by
  go_enter Try.func86, Try.ntmps86
  go_wp2_with (first | (go_at_call 70; (with_reducible refine (signed_1 (by repeat (first | assumption | refine Now.alloc ?_ _ | refine Now.set ?_ (by simp; omega) _))).mono ?_); rintro e w1 ⟨rfl, h1⟩) | (go_at_call 41; (with_reducible refine (ahead_0 (by repeat (first | assumption | refine Now.alloc ?_ _ | refine Now.set ?_ (by simp; omega) _))).mono ?_); rintro e w1 ⟨rfl, h1⟩) | (go_at_call 41; (with_reducible refine (ahead_1 (by repeat (first | assumption | refine Now.alloc ?_ _ | refine Now.set ?_ (by simp; omega) _))).mono ?_); rintro e w1 ⟨rfl, h1⟩) | (go_at_call 41; (with_reducible refine (ahead_2 (by repeat (first | assumption | refine Now.alloc ?_ _ | refine Now.set ?_ (by simp; omega) _))).mono ?_); rintro e w1 ⟨rfl, h1⟩) | (go_at_call 37; (with_reducible refine (digit_any _ _).mono ?_); rintro e w1 ⟨rfl, rfl⟩))
  all_goals go_ret
  all_goals exact ⟨ret_int (by grind [expo]), by assumption⟩
set_option maxRecDepth 100000 in
set_option maxHeartbeats 400000 in
theorem countW_any (h : Now 57 g v xs r w0 w) :
    Calls Try.prog 85 #[.pointer (some ⟨g, 0, none⟩)] w fun e w' => e = .returned (.tuple #[]) ∧ Now 57 g v xs (cnt r) w0 w' := by
  go_enter Try.func85, Try.ntmps85
  go_wp2
  go_loopw [] (fun wr => ∃ q, cnt q = cnt r ∧ Now 57 g v xs q w0 wr) (fun wr => left g xs.length wr)
  case atStart => exact ⟨r, rfl, h⟩
  case round =>
    obtain ⟨q, hq, hn⟩ := hrel
    have HQ := Lib.hid hq
    clear hq
    by_cases hw : sDigit (ah q 0) = true
    · have hlq := len_of_digit hw
      have HW := Lib.hid hw
      go_wp2_with (first | (go_at_call 41; (with_reducible refine (ahead_0 (by repeat (first | assumption | refine Now.alloc ?_ _ | refine Now.set ?_ (by simp; omega) _))).mono ?_); rintro e w1 ⟨rfl, h1⟩) | (go_at_call 37; (with_reducible refine (digit_any _ _).mono ?_); rintro e w1 ⟨rfl, rfl⟩) | (go_at_call 39; (with_reducible refine (skip_1 (by repeat (first | assumption | refine Now.alloc ?_ _ | refine Now.set ?_ (by simp; omega) _)) ?_).mono ?_); (first | assumption | grind [ah_end]); rintro e w1 ⟨rfl, h1⟩))
      go_roundw
      case rel => exact ⟨dp 1 q, by rw [← cnt_yes HW.out, HQ.out], h1⟩
      case measure =>
        rw [h1.left, hn.left, dp_len]
        omega
    · have hw2 : sDigit (ah q 0) = false := by simpa using hw
      have HW := Lib.hid hw2
      go_wp2_with (first | (go_at_call 41; (with_reducible refine (ahead_0 (by repeat (first | assumption | refine Now.alloc ?_ _ | refine Now.set ?_ (by simp; omega) _))).mono ?_); rintro e w1 ⟨rfl, h1⟩) | (go_at_call 37; (with_reducible refine (digit_any _ _).mono ?_); rintro e w1 ⟨rfl, rfl⟩))
      go_end0
      refine ⟨rfl, ?_⟩
      rw [← HQ.out, cnt_no HW.out]
      exact h1
end

/-- A token. -/
structure Tok where
  kind : Int
  text : ByteArray := ⟨#[]⟩
  int : Int := 0
  whole : Bool := false
  sign : Bool := false
  id : Bool := false
def Tok.val (t : Tok) : Value := .agg #[.int .i64 t.kind, .string t.text, .int .i64 t.int, .bool t.whole, .bool t.sign, .bool t.id]

/-- A token of one sign. -/
def markT (a : Int) : Tok :=
  if a = 44 then { kind := 18 } else if a = 58 then { kind := 16 } else if a = 59 then { kind := 17 } else
  if a = 40 ∨ a = 91 ∨ a = 123 then { kind := 19, text := Utf8.encode a } else if a = 41 ∨ a = 93 ∨ a = 125 then { kind := 20, text := Utf8.encode a } else { kind := 9, text := Utf8.encode a }

/-- A token's cells, none written yet. -/
abbrev zeroT : Obj := .cells #[.int .i64 0, .string ⟨#[]⟩, .int .i64 0, .bool false, .bool false, .bool false] 26

section
variable {T : TypeId} {g : Nat} {v : Value} {xs r : List Int} {w0 w w1 : World}
theorem Now.res (h : Now T g v xs r (w.alloc zeroT) w1) (hg : g < w.heap.size) :
    w1.cell? ⟨w.heap.size, 0, none⟩ = some (.int .i64 0) ∧ w1.cell? ⟨w.heap.size, 1, none⟩ = some (.string ⟨#[]⟩) ∧ w1.cell? ⟨w.heap.size, 2, none⟩ = some (.int .i64 0) ∧
    w1.cell? ⟨w.heap.size, 3, none⟩ = some (.bool false) ∧ w1.cell? ⟨w.heap.size, 4, none⟩ = some (.bool false) ∧ w1.cell? ⟨w.heap.size, 5, none⟩ = some (.bool false) ∧
    w1.frozen? ⟨w.heap.size, 0, none⟩ = false ∧ w1.frozen? ⟨w.heap.size, 1, none⟩ = false ∧ w1.frozen? ⟨w.heap.size, 2, none⟩ = false ∧
    w1.frozen? ⟨w.heap.size, 3, none⟩ = false ∧ w1.frozen? ⟨w.heap.size, 4, none⟩ = false ∧ w1.frozen? ⟨w.heap.size, 5, none⟩ = false := by
  have hb : w1.heap[w.heap.size]? = some zeroT := by
    rw [h.gw.block w.heap.size (by simp) (by intro e; injection e; omega)]
    exact heap_alloc_self _ _
  refine ⟨?_, ?_, ?_, ?_, ?_, ?_, ?_, ?_, ?_, ?_, ?_, ?_⟩ <;> simp [World.cell?, World.frozen?, hb]
theorem Now.wrote {r' : List Int} (h1 : Now T g v xs r' (w.alloc zeroT) w1) (h : Now T g v xs r w0 w) (a b c d e f : Value) :
    Now T g v xs r' w0 ((((((w1.setCell ⟨w.heap.size, 0, none⟩ a).setCell ⟨w.heap.size, 1, none⟩ b).setCell ⟨w.heap.size, 2, none⟩ c).setCell ⟨w.heap.size, 3, none⟩ d).setCell ⟨w.heap.size, 4, none⟩ e).setCell ⟨w.heap.size, 5, none⟩ f) := by
  have hs := h.gw.size
  exact ((((((h1.since (h.alloc zeroT)).set hs a).set hs b).set hs c).set hs d).set hs e).set hs f
end

section
variable {g : Nat} {v : Value} {xs r : List Int} {w0 w : World}
set_option maxRecDepth 100000 in
set_option maxHeartbeats 400000 in
theorem mark_any (h : Now 57 g v xs r w0 w) (hl : 1 ≤ r.length) :
    Calls Try.prog 51 #[.pointer (some ⟨g, 0, none⟩)] w fun e w' => e = .returned (markT (ah r 0)).val ∧ Now 57 g v xs (dp 1 r) w0 w' := by
  have hA := (h.alloc zeroT).st.now
  have hgo := h.st.lt
  go_enter Try.func51, Try.ntmps51
  go_wp2_with (first | (go_at_call 65; refine (take_any hA hl).mono ?_; rintro e w1 ⟨rfl, h1⟩; have hc := h1.res hgo) | (first | (go_at_call 76; (with_reducible refine (put_any _ _).mono ?_); rintro e w1 ⟨rfl, rfl⟩)))
  all_goals refine bodyPost_ret (v := (markT (ah r 0)).val) ?_ rfl ⟨rfl, h1.wrote h _ _ _ _ _ _⟩
  all_goals simp [results, Try.results51, go_sem, hc]
  all_goals clear hA h1 hc h hl
  all_goals generalize ah r 0 = a at *
  all_goals simp_all [markT, Tok.val]
  all_goals trace_state
end
end Go.Proofs.Ytfpgkfpehkelcaa
