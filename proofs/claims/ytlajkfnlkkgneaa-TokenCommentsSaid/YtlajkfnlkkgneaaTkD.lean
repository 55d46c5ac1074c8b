
import Derived.Test.YtlajkfnlkkgneaaTkP
import Derived.Laws.BitsAllLaws
import Derived.Laws.BitsLemmas
namespace Go.Proofs.Ytlajkfnlkkgneaa
open Go.RowKit

/-- How many signs of n are still to come. -/
def left (g n : Nat) (w : World) : Nat := n - (intOf ((w.cell? ⟨g, 1, none⟩).getD undef)).toNat
theorem Now.left {T : TypeId} {g : Nat} {v : Value} {xs r : List Int} {w0 w : World} (h : Now T g v xs r w0 w) : left g xs.length w = r.length := by
  have := h.st.rlen
  unfold Go.Proofs.Ytlajkfnlkkgneaa.left
  rw [h.st.cell1]
  simp [intOf]
  omega

theorem or16 (x d : Int) (hx : 0 ≤ x) (hx2 : x ≤ 16777216) (hd : 0 ≤ d) (hd2 : d < 16) : bits .or .i64 (x * 16) d = x * 16 + d := by
  obtain ⟨a, rfl⟩ : ∃ a : Nat, x = a := ⟨x.toNat, by omega⟩
  obtain ⟨b, rfl⟩ : ∃ b : Nat, d = b := ⟨d.toNat, by omega⟩
  have e1 : (BitVec.ofInt 64 ((a : Int) * 16)).toNat = a * 16 := by
    rw [show ((a : Int) * 16) = ((a * 16 : Nat) : Int) by omega, BitVec.ofInt_natCast, BitVec.toNat_ofNat]
    exact Nat.mod_eq_of_lt (by omega)
  have e2 : (BitVec.ofInt 64 (b : Int)).toNat = b := by
    rw [BitVec.ofInt_natCast, BitVec.toNat_ofNat]
    exact Nat.mod_eq_of_lt (by omega)
  have e3 : a * 16 ||| b = a * 16 + b := by
    have := Nat.shiftLeft_add_eq_or_of_lt (show b < 2 ^ 4 by omega) a
    rw [Nat.shiftLeft_eq] at this
    exact this.symm
  show IntKind.i64.wrap ((BitVec.ofInt 64 ((a : Int) * 16) ||| BitVec.ofInt 64 (b : Int)).toNat : Int) = _
  rw [BitVec.toNat_or, e1, e2, e3, IntKind.wrap_i64]
  omega

theorem sHex_bd (x : Int) : 0 ≤ sHex x ∧ sHex x < 16 := by
  unfold sHex
  split
  · omega
  · split
    · omega
    · split <;> omega

section
variable {g : Nat} {v : Value} {xs r : List Int} {w0 w : World}
theorem valid_any (a : Int) (w : World) :
    Calls Try.prog 48 #[.int .i32 a] w fun e w' => e = .returned (.bool (decide ((0 ≤ a ∧ a < 55296) ∨ (57343 < a ∧ a ≤ 1114111)))) ∧ w = w' := by
  go_enter Try.func48, Try.ntmps48
  go_wp2
  all_goals go_ret
  all_goals exact ⟨ret_bool (by grind), rfl⟩
theorem meant_any (a : Int) (w : World) (h : 0 ≤ a ∧ a ≤ 16777215) :
    Calls Try.prog 43 #[.int .i64 a] w fun e w' => e = .returned (.int .i32 (meantS a)) ∧ w = w' := by
  obtain ⟨h1, h2⟩ := h
  go_enter Try.func43, Try.ntmps43
  go_wp2_with (first | (go_at_call 48; (with_reducible refine (valid_any _ _).mono ?_); rintro e w1 ⟨rfl, rfl⟩))
  all_goals go_ret
  all_goals exact ⟨ret_int (by grind [meantS]), rfl⟩
theorem escapes_0 (h : Now 38 g v xs r w0 w) :
    Calls Try.prog 31 #[.pointer (some ⟨g, 0, none⟩), .int .i64 0] w fun e w' => e = .returned (.bool (esc r 0)) ∧ Now 38 g v xs r w0 w' := by
  go_enter Try.func31, Try.ntmps31
  go_wp2_with (first | (go_at_call 18; (with_reducible refine (ahead_0 (by repeat (first | assumption | refine Now.alloc ?_ _ | refine Now.set ?_ (by simp; omega) _))).mono ?_); rintro e w1 ⟨rfl, h1⟩) | (go_at_call 18; (with_reducible refine (ahead_1 (by repeat (first | assumption | refine Now.alloc ?_ _ | refine Now.set ?_ (by simp; omega) _))).mono ?_); rintro e w1 ⟨rfl, h1⟩))
  all_goals go_ret
  all_goals exact ⟨ret_bool (by grind [esc]), by assumption⟩
theorem escapes_1 (h : Now 38 g v xs r w0 w) :
    Calls Try.prog 31 #[.pointer (some ⟨g, 0, none⟩), .int .i64 1] w fun e w' => e = .returned (.bool (esc r 1)) ∧ Now 38 g v xs r w0 w' := by
  go_enter Try.func31, Try.ntmps31
  go_wp2_with (first | (go_at_call 18; (with_reducible refine (ahead_1 (by repeat (first | assumption | refine Now.alloc ?_ _ | refine Now.set ?_ (by simp; omega) _))).mono ?_); rintro e w1 ⟨rfl, h1⟩) | (go_at_call 18; (with_reducible refine (ahead_2 (by repeat (first | assumption | refine Now.alloc ?_ _ | refine Now.set ?_ (by simp; omega) _))).mono ?_); rintro e w1 ⟨rfl, h1⟩))
  all_goals go_ret
  all_goals exact ⟨ret_bool (by grind [esc]), by assumption⟩
theorem escapes_2 (h : Now 38 g v xs r w0 w) :
    Calls Try.prog 31 #[.pointer (some ⟨g, 0, none⟩), .int .i64 2] w fun e w' => e = .returned (.bool (esc r 2)) ∧ Now 38 g v xs r w0 w' := by
  go_enter Try.func31, Try.ntmps31
  go_wp2_with (first | (go_at_call 18; (with_reducible refine (ahead_2 (by repeat (first | assumption | refine Now.alloc ?_ _ | refine Now.set ?_ (by simp; omega) _))).mono ?_); rintro e w1 ⟨rfl, h1⟩) | (go_at_call 18; (with_reducible refine (ahead_3 (by repeat (first | assumption | refine Now.alloc ?_ _ | refine Now.set ?_ (by simp; omega) _))).mono ?_); rintro e w1 ⟨rfl, h1⟩))
  all_goals go_ret
  all_goals exact ⟨ret_bool (by grind [esc]), by assumption⟩
theorem nbg_0 (h : Now 38 g v xs r w0 w) :
    Calls Try.prog 26 #[.pointer (some ⟨g, 0, none⟩), .int .i64 0] w fun e w' => e = .returned (.bool (nbg r 0)) ∧ Now 38 g v xs r w0 w' := by
  go_enter Try.func26, Try.ntmps26
  go_wp2_with (first | (go_at_call 18; (with_reducible refine (ahead_0 (by repeat (first | assumption | refine Now.alloc ?_ _ | refine Now.set ?_ (by simp; omega) _))).mono ?_); rintro e w1 ⟨rfl, h1⟩) | (go_at_call 18; (with_reducible refine (ahead_1 (by repeat (first | assumption | refine Now.alloc ?_ _ | refine Now.set ?_ (by simp; omega) _))).mono ?_); rintro e w1 ⟨rfl, h1⟩) | (go_at_call 38; (with_reducible refine (letter_any _ _).mono ?_); rintro e w1 ⟨rfl, rfl⟩) | (go_at_call 31; (with_reducible refine (escapes_0 (by repeat (first | assumption | refine Now.alloc ?_ _ | refine Now.set ?_ (by simp; omega) _))).mono ?_); rintro e w1 ⟨rfl, h1⟩) | (go_at_call 31; (with_reducible refine (escapes_1 (by repeat (first | assumption | refine Now.alloc ?_ _ | refine Now.set ?_ (by simp; omega) _))).mono ?_); rintro e w1 ⟨rfl, h1⟩))
  all_goals go_ret
  all_goals exact ⟨ret_bool (by grind [nbg]), by assumption⟩
theorem nbg_1 (h : Now 38 g v xs r w0 w) :
    Calls Try.prog 26 #[.pointer (some ⟨g, 0, none⟩), .int .i64 1] w fun e w' => e = .returned (.bool (nbg r 1)) ∧ Now 38 g v xs r w0 w' := by
  go_enter Try.func26, Try.ntmps26
  go_wp2_with (first | (go_at_call 18; (with_reducible refine (ahead_1 (by repeat (first | assumption | refine Now.alloc ?_ _ | refine Now.set ?_ (by simp; omega) _))).mono ?_); rintro e w1 ⟨rfl, h1⟩) | (go_at_call 18; (with_reducible refine (ahead_2 (by repeat (first | assumption | refine Now.alloc ?_ _ | refine Now.set ?_ (by simp; omega) _))).mono ?_); rintro e w1 ⟨rfl, h1⟩) | (go_at_call 38; (with_reducible refine (letter_any _ _).mono ?_); rintro e w1 ⟨rfl, rfl⟩) | (go_at_call 31; (with_reducible refine (escapes_1 (by repeat (first | assumption | refine Now.alloc ?_ _ | refine Now.set ?_ (by simp; omega) _))).mono ?_); rintro e w1 ⟨rfl, h1⟩) | (go_at_call 31; (with_reducible refine (escapes_2 (by repeat (first | assumption | refine Now.alloc ?_ _ | refine Now.set ?_ (by simp; omega) _))).mono ?_); rintro e w1 ⟨rfl, h1⟩))
  all_goals go_ret
  all_goals exact ⟨ret_bool (by grind [nbg]), by assumption⟩

theorem wh_white {r : List Int} (h : sWhite (ah r 0) = true) : wh r = wh (dp 1 r) := by
  cases r with
  | nil => rfl
  | cons a t => simp at h; simp [wh, dp, h]
theorem wh_else {r : List Int} (h : sWhite (ah r 0) = false) : wh r = r := by
  cases r with
  | nil => rfl
  | cons a t => simp at h; simp [wh, h]
theorem wh_suf (r : List Int) : wh r <:+ r := List.dropWhile_suffix _
theorem wh_len (r : List Int) : (wh r).length ≤ r.length := (wh_suf r).length_le

set_option maxRecDepth 100000 in
set_option maxHeartbeats 400000 in
theorem whiteW_any (h : Now 38 g v xs r w0 w) :
    Calls Try.prog 20 #[.pointer (some ⟨g, 0, none⟩)] w fun e w' => e = .returned (.int .i64 (r.length - (wh r).length)) ∧ Now 38 g v xs (wh r) w0 w' := by
  have c1 := h.st.cell1
  have hr := h.st.rlen
  have hl := h.st.len
  go_enter Try.func20, Try.ntmps20
  go_wp2
  clear c1
  go_loopw [] (fun wr => ∃ q, wh q = wh r ∧ Now 38 g v xs q w0 wr) (fun wr => left g xs.length wr)
  case atStart => exact ⟨r, rfl, h⟩
  case round =>
    obtain ⟨q, hq, hn⟩ := hrel
    have HQ := Lib.hid hq
    clear hq
    by_cases hw : sWhite (ah q 0) = true
    · have hlq := len_of_white hw
      have HW := Lib.hid hw
      go_wp2_with (first | (go_at_call 18; (with_reducible refine (ahead_0 (by repeat (first | assumption | refine Now.alloc ?_ _ | refine Now.set ?_ (by simp; omega) _))).mono ?_); rintro e w1 ⟨rfl, h1⟩) | (go_at_call 19; (with_reducible refine (white_any _ _).mono ?_); rintro e w1 ⟨rfl, rfl⟩) | (go_at_call 16; (with_reducible refine (skip_1 (by repeat (first | assumption | refine Now.alloc ?_ _ | refine Now.set ?_ (by simp; omega) _)) ?_).mono ?_); (first | assumption | grind [ah_end]); rintro e w1 ⟨rfl, h1⟩))
      go_roundw
      case rel => exact ⟨dp 1 q, by rw [← wh_white HW.out, HQ.out], by assumption⟩
      case measure =>
        rw [h1.left, hn.left, dp_len]
        omega
    · have hqe : q = wh r := by rw [← HQ.out, wh_else (by simpa using hw)]
      subst hqe
      have hl2 := hn.st.rlen
      have hl3 := wh_len r
      have HW := Lib.hid hw
      go_wp2_with (first | (go_at_call 18; refine (ahead_0 (by repeat (first | assumption | refine Now.alloc ?_ _ | refine Now.set ?_ (by simp; omega) _))).mono ?_; rintro e w1 ⟨rfl, h1⟩; have c1 := h1.st.cell1) | (first | (go_at_call 19; (with_reducible refine (white_any _ _).mono ?_); rintro e w1 ⟨rfl, rfl⟩)))
      go_ret
      exact ⟨ret_int (by omega), by assumption⟩
end
end Go.Proofs.Ytlajkfnlkkgneaa
namespace Go.Proofs.Ytlajkfnlkkgneaa
open Go.RowKit

/-- Behind a comment's end. -/
def cmEnd : List Int → List Int
  | [] => []
  | a :: t => if pre [42, 47] (a :: t) then dp 2 (a :: t) else cmEnd t
def cmF : Nat → List Int → List Int
  | 0, r => r
  | f + 1, r => if pre [47, 42] r then cmF f (cmEnd (dp 2 r)) else r
/-- Behind all comments. -/
def cm (r : List Int) : List Int := cmF r.length r

theorem cmEnd_suf : ∀ r : List Int, cmEnd r <:+ r
  | [] => List.suffix_refl _
  | a :: t => by
    unfold cmEnd
    split
    · exact dp_suf _ _
    · exact (cmEnd_suf t).trans (List.suffix_cons a t)
theorem cmEnd_len (r : List Int) : (cmEnd r).length ≤ r.length := (cmEnd_suf r).length_le
theorem cmEnd_yes {r : List Int} (h : pre [42, 47] r = true) : cmEnd r = dp 2 r := by
  cases r with
  | nil => rfl
  | cons a t => unfold cmEnd; rw [if_pos h]
theorem cmEnd_no {r : List Int} (h : pre [42, 47] r = false) : cmEnd r = cmEnd (dp 1 r) := by
  cases r with
  | nil => rfl
  | cons a t => conv => lhs; unfold cmEnd
                rw [if_neg (by rw [h]; simp)]; rfl
theorem cmF_fuel : ∀ (f g : Nat) (r : List Int), r.length ≤ f → r.length ≤ g → cmF f r = cmF g r
  | 0, 0, _, _, _ => rfl
  | 0, g + 1, r, h, _ => by
    obtain rfl : r = [] := List.eq_nil_of_length_eq_zero (by omega)
    rfl
  | f + 1, 0, r, _, h => by
    obtain rfl : r = [] := List.eq_nil_of_length_eq_zero (by omega)
    rfl
  | f + 1, g + 1, r, h1, h2 => by
    unfold cmF
    by_cases c : pre [47, 42] r = true
    · have := pre_len c
      have hl := cmEnd_len (dp 2 r)
      rw [dp_len] at hl
      simp only [List.length_cons, List.length_nil] at this
      rw [if_pos c, if_pos c, cmF_fuel f g _ (by omega) (by omega)]
    · rw [if_neg c, if_neg c]
theorem cm_yes {r : List Int} (h : pre [47, 42] r = true) : cm r = cm (cmEnd (dp 2 r)) := by
  have := pre_len h
  have hl := cmEnd_len (dp 2 r)
  rw [dp_len] at hl
  simp only [List.length_cons, List.length_nil] at this
  obtain ⟨n, hn⟩ : ∃ n, r.length = n + 1 := ⟨r.length - 1, by omega⟩
  unfold cm
  rw [hn]
  conv => lhs; unfold cmF
  rw [if_pos h]
  exact cmF_fuel _ _ _ (by omega) (Nat.le_refl _)
theorem cm_no {r : List Int} (h : pre [47, 42] r = false) : cm r = r := by
  unfold cm
  cases r with
  | nil => rfl
  | cons a t =>
    show cmF (t.length + 1) _ = _
    unfold cmF
    rw [if_neg (by rw [h]; simp)]
theorem cmF_suf : ∀ (f : Nat) (r : List Int), cmF f r <:+ r
  | 0, r => List.suffix_refl r
  | f + 1, r => by
    unfold cmF
    split
    · exact (cmF_suf f _).trans ((cmEnd_suf _).trans (dp_suf _ _))
    · exact List.suffix_refl r
theorem cm_suf (r : List Int) : cm r <:+ r := cmF_suf _ _
theorem cm_len (r : List Int) : (cm r).length ≤ r.length := (cm_suf r).length_le

section
variable {g : Nat} {v : Value} {xs r : List Int} {w0 w : World}
set_option maxRecDepth 100000 in
set_option maxHeartbeats 400000 in
theorem comments_any (h : Now 38 g v xs r w0 w) :
    Calls Try.prog 11 #[.pointer (some ⟨g, 0, none⟩)] w fun e w' => e = .returned (.tuple #[]) ∧ Now 38 g v xs (cm r) w0 w' := by
  go_enter Try.func11, Try.ntmps11
  go_wp2
  go_loopw [] (fun wr => ∃ q, cm q = cm r ∧ Now 38 g v xs q w0 wr) (fun wr => left g xs.length wr)
  case atStart => exact ⟨r, rfl, h⟩
  case round =>
    obtain ⟨q, hq, hn⟩ := hrel
    have HQ := Lib.hid hq
    clear hq
    by_cases hc : pre [47, 42] q = true
    · have hlq := pre_len hc
      simp only [List.length_cons, List.length_nil] at hlq
      have HC := Lib.hid hc
      clear hc
      obtain ⟨wo, rfl⟩ : ∃ wo : World, wo = wr := ⟨_, rfl⟩
      go_wp2_with (first | (go_at_call 15; (with_reducible refine (took_any (by repeat (first | assumption | refine Now.alloc ?_ _ | refine Now.set ?_ (by simp; omega) _)) ⟨#[47, 42]⟩ [47, 42] (by decide) (by decide) (by decide)).mono ?_); rintro e w1 (⟨rfl, hp1, h1⟩ | ⟨rfl, hp1, h1⟩)))
      · go_loopw [] (fun wr => ∃ p, cmEnd p = cmEnd (dp 2 q) ∧ p.length ≤ (dp 2 q).length ∧ Now 38 g v xs p w0 wr) (fun wr => left g xs.length wr)
        case atStart => exact ⟨dp 2 q, rfl, Nat.le_refl _, h1⟩
        case round =>
          obtain ⟨p, hp, hpl, hpn⟩ := hrel
          have HP := Lib.hid hp
          clear hp
          have hx := cmEnd_len p
          rw [dp_len] at hpl
          go_wp2_with (first | (go_at_call 12; (with_reducible refine (ended_any (by repeat (first | assumption | refine Now.alloc ?_ _ | refine Now.set ?_ (by simp; omega) _))).mono ?_); rintro e w1 ⟨rfl, h1⟩) | (go_at_call 15; (with_reducible refine (took_any (by repeat (first | assumption | refine Now.alloc ?_ _ | refine Now.set ?_ (by simp; omega) _)) ⟨#[42, 47]⟩ [42, 47] (by decide) (by decide) (by decide)).mono ?_); rintro e w1 (⟨rfl, hp1, h1⟩ | ⟨rfl, hp1, h1⟩)) | (go_at_call 16; (with_reducible refine (skip_1 (by repeat (first | assumption | refine Now.alloc ?_ _ | refine Now.set ?_ (by simp; omega) _)) ?_).mono ?_); (first | assumption | grind [ah_end]); rintro e w1 ⟨rfl, h1⟩))
          · go_roundw
            case rel =>
              have he : p = [] := by assumption
              subst he
              exact ⟨[], by rw [← HQ.out, cm_yes HC.out, ← HP.out]; rfl, h1⟩
            case measure => rw [h1.left, hn.left]; omega
          · go_roundw
            case rel => exact ⟨dp 2 p, by rw [← HQ.out, cm_yes HC.out, ← HP.out, cmEnd_yes hp1], h1⟩
            case measure => rw [h1.left, hn.left, dp_len]; omega
          · have hne : 0 < p.length := List.length_pos_iff.2 (by assumption)
            go_roundw
            case rel => exact ⟨dp 1 p, by rw [← HP.out, cmEnd_no hp1], by rw [dp_len, dp_len]; omega, h1⟩
            case measure => rw [h1.left, hpn.left, dp_len]; omega
          · exfalso
            have hne : ¬ p = [] := by assumption
            have hb : (!p.isEmpty) = false := by assumption
            simp [hne] at hb
      · exact absurd HC.out (by rw [hp1]; simp)
    · go_wp2_with (first | (go_at_call 15; (with_reducible refine (took_any (by repeat (first | assumption | refine Now.alloc ?_ _ | refine Now.set ?_ (by simp; omega) _)) ⟨#[47, 42]⟩ [47, 42] (by decide) (by decide) (by decide)).mono ?_); rintro e w1 (⟨rfl, hp1, h1⟩ | ⟨rfl, hp1, h1⟩)))
      · exact absurd hp1 hc
      · go_end0
        refine ⟨rfl, ?_⟩
        rw [← HQ.out, cm_no hp1]
        exact h1

/-- Hex digits, from a place on. -/
theorem hx_yes {k c : Nat} {n : Int} {r : List Int} (h : sHexOk (ah r 0) = true) : hx (k + 1) n c r = hx k (n * 16 + sHex (ah r 0)) (c + 1) (dp 1 r) := by
  conv => lhs; unfold hx
  rw [if_pos h]
theorem hx_no {k c : Nat} {n : Int} {r : List Int} (h : sHexOk (ah r 0) = false) : hx k n c r = (n, c, r) := by
  cases k with
  | zero => rfl
  | succ k => unfold hx; rw [if_neg (by rw [h]; simp)]

/-- What so many hex digits may tell. -/
def HxB (c : Nat) (n : Int) : Prop := 0 ≤ n ∧ n < 16 ^ c

set_option maxRecDepth 100000 in
set_option maxHeartbeats 400000 in
theorem hexes_any (h : Now 38 g v xs r w0 w) :
    Calls Try.prog 42 #[.pointer (some ⟨g, 0, none⟩)] w fun e w' => e = .returned (.tuple #[.int .i64 (hx 6 0 0 r).1, .int .i64 (hx 6 0 0 r).2.1]) ∧ Now 38 g v xs (hx 6 0 0 r).2.2 w0 w' := by
  go_enter Try.func42, Try.ntmps42
  go_wp2
  go_loopw [2, 3] (fun nv cv wr => ∃ (c : Nat) (n : Int) (q : List Int), c ≤ 6 ∧ nv = .int .i64 n ∧ cv = .int .i64 c ∧ hx (6 - c) n c q = hx 6 0 0 r ∧ HxB c n ∧ Now 38 g v xs q w0 wr) (fun _ _ wr => left g xs.length wr)
  case atStart => exact ⟨0, 0, r, by omega, rfl, rfl, rfl, ⟨by omega, by decide⟩, h⟩
  case round =>
    obtain ⟨c, n, q, hc, rfl, rfl, hq, hb, hn⟩ := hrel
    have HQ := Lib.hid hq
    have HB := Lib.hid hb
    clear hq hb
    by_cases hlt : c < 6
    · have hnb : 0 ≤ n ∧ n < 1048576 := by
        obtain ⟨h1, h2⟩ := HB.out
        refine ⟨h1, ?_⟩
        rcases (by omega : c = 0 ∨ c = 1 ∨ c = 2 ∨ c = 3 ∨ c = 4 ∨ c = 5) with rfl | rfl | rfl | rfl | rfl | rfl <;> omega
      obtain ⟨hn1, hn2⟩ := hnb
      obtain ⟨hd1, hd2⟩ := sHex_bd (ah q 0)
      by_cases hx1 : sHexOk (ah q 0) = true
      · have hlq := len_of_hex hx1
        have HX := Lib.hid hx1
        have ho := or16 n (sHex (ah q 0)) hn1 (by omega) hd1 hd2
        go_wp2_with (first | (go_at_call 18; (with_reducible refine (ahead_0 (by repeat (first | assumption | refine Now.alloc ?_ _ | refine Now.set ?_ (by simp; omega) _))).mono ?_); rintro e w1 ⟨rfl, h1⟩) | (go_at_call 47; (with_reducible refine (hex_any _ _).mono ?_); rintro e w1 ⟨rfl, rfl⟩) | (go_at_call 30; (with_reducible refine (take_any (by repeat (first | assumption | refine Now.alloc ?_ _ | refine Now.set ?_ (by simp; omega) _)) ?_).mono ?_); (first | assumption | grind [ah_end]); rintro e w1 ⟨rfl, h1⟩))
        go_roundw
        case rel =>
          refine ⟨c + 1, _, dp 1 q, by omega, rfl, by go_num, ?_, ?_, h1⟩
          · rw [← HQ.out, show 6 - c = (6 - (c + 1)) + 1 by omega, hx_yes HX.out]
          · obtain ⟨_, hb2⟩ := HB.out
            refine ⟨by omega, ?_⟩
            rw [Int.pow_succ]
            omega
        case measure => rw [h1.left, hn.left, dp_len]; omega
      · have HX := Lib.hid hx1
        have hx2 : sHexOk (ah q 0) = false := by simpa using hx1
        go_wp2_with (first | (go_at_call 18; (with_reducible refine (ahead_0 (by repeat (first | assumption | refine Now.alloc ?_ _ | refine Now.set ?_ (by simp; omega) _))).mono ?_); rintro e w1 ⟨rfl, h1⟩) | (go_at_call 47; (with_reducible refine (hex_any _ _).mono ?_); rintro e w1 ⟨rfl, rfl⟩))
        have he : hx 6 0 0 r = (n, c, q) := by rw [← HQ.out, hx_no hx2]
        go_ret2
        rw [he]
        exact ⟨rfl, h1⟩
    · go_wp2
      have he : hx 6 0 0 r = (n, c, q) := by rw [← HQ.out, show 6 - c = 0 by omega]; rfl
      go_ret2
      rw [he]
      exact ⟨rfl, hn⟩

theorem hx_bd : ∀ (k c : Nat) (n : Int) (r : List Int), 0 ≤ n → n < 16 ^ c → 0 ≤ (hx k n c r).1 ∧ (hx k n c r).1 < 16 ^ (c + k)
  | 0, c, n, r, h0, h1 => ⟨h0, h1⟩
  | k + 1, c, n, r, h0, h1 => by
    unfold hx
    have hd := sHex_bd (ah r 0)
    split
    · have := hx_bd k (c + 1) (n * 16 + sHex (ah r 0)) (dp 1 r) (by omega) (by rw [Int.pow_succ]; omega)
      rw [show c + (k + 1) = c + 1 + k by omega]
      exact this
    · refine ⟨h0, ?_⟩
      have e : (16 : Int) ^ (c + (k + 1)) = 16 ^ c * 16 ^ (k + 1) := Int.pow_add ..
      have e2 : (1 : Int) ≤ 16 ^ (k + 1) := Int.pow_pos (by decide)
      have e3 : (16 : Int) ^ c * 1 ≤ 16 ^ c * 16 ^ (k + 1) := Int.mul_le_mul_of_nonneg_left e2 (by omega)
      rw [e]
      show n < _
      omega
theorem hx6_bd (r : List Int) : 0 ≤ (hx 6 0 0 r).1 ∧ (hx 6 0 0 r).1 ≤ 16777215 := by
  have := hx_bd 6 0 0 r (by omega) (by decide)
  omega

theorem hx_cnt : ∀ (k c : Nat) (n : Int) (r : List Int), c ≤ (hx k n c r).2.1 ∧ (hx k n c r).2.1 ≤ c + k
  | 0, c, n, r => ⟨Nat.le_refl _, Nat.le_refl _⟩
  | k + 1, c, n, r => by
    unfold hx
    split
    · have := hx_cnt k (c + 1) (n * 16 + sHex (ah r 0)) (dp 1 r)
      omega
    · dsimp only
      omega
theorem hexes_to (h : Now 38 g v xs r w0 w) {n : Int} {c : Nat} {u : List Int} (he : hx 6 0 0 r = (n, c, u)) :
    Calls Try.prog 42 #[.pointer (some ⟨g, 0, none⟩)] w fun e w' => e = .returned (.tuple #[.int .i64 n, .int .i64 c]) ∧ Now 38 g v xs u w0 w' := by
  have := hexes_any h
  rw [he] at this
  exact this

set_option maxRecDepth 100000 in
set_option maxHeartbeats 400000 in
theorem escape_any (h : Now 38 g v xs r w0 w) (hl : 1 ≤ r.length) :
    Calls Try.prog 32 #[.pointer (some ⟨g, 0, none⟩)] w fun e w' => e = .returned (.int .i32 (escT (dp 1 r)).1) ∧ Now 38 g v xs (escT (dp 1 r)).2 w0 w' := by
  by_cases h0 : (dp 1 r) = []
  · have he : escT (dp 1 r) = (65533, []) := by simp [escT, h0]
    have H0 := Lib.hid h0
    have hem : (dp 1 r).isEmpty = true := by simp [h0]
    rw [he]
    clear he h0
    go_enter Try.func32, Try.ntmps32
    go_wp2_with (first | (go_at_call 30; (with_reducible refine (take_any (by repeat (first | assumption | refine Now.alloc ?_ _ | refine Now.set ?_ (by simp; omega) _)) ?_).mono ?_); (first | assumption | grind [ah_end]); rintro e w1 ⟨rfl, h1⟩) | (go_at_call 12; (with_reducible refine (ended_any (by repeat (first | assumption | refine Now.alloc ?_ _ | refine Now.set ?_ (by simp; omega) _))).mono ?_); rintro e w1 ⟨rfl, h1⟩))
    go_ret
    rw [H0.out] at h1
    exact ⟨rfl, h1⟩
  · have hem : (dp 1 r).isEmpty = false := by simpa using h0
    have hlen : 1 ≤ (dp 1 r).length := List.length_pos_iff.2 h0
    have hb := hx6_bd (dp 1 r)
    have hc := hx_cnt 6 0 0 (dp 1 r)
    have hce : sHexOk (ah (dp 1 r) 0) = true → 1 ≤ (hx 6 0 0 (dp 1 r)).2.1 := by
      intro hh
      rw [hx_yes hh]
      exact (hx_cnt 5 1 _ _).1
    have hcn : sHexOk (ah (dp 1 r) 0) = false → hx 6 0 0 (dp 1 r) = (0, 0, dp 1 r) := hx_no
    have he2 : (hx 6 0 0 (dp 1 r)).2.1 = 0 → escT (dp 1 r) = (ah (dp 1 r) 0, dp 1 (dp 1 r)) := by intro h2; unfold escT; rw [if_neg (by rw [hem]; simp), if_pos h2]
    have he3 : (hx 6 0 0 (dp 1 r)).2.1 ≠ 0 → escT (dp 1 r) = (meantS (hx 6 0 0 (dp 1 r)).1, if sWhite (ah (hx 6 0 0 (dp 1 r)).2.2 0) then dp 1 (hx 6 0 0 (dp 1 r)).2.2 else (hx 6 0 0 (dp 1 r)).2.2) := by intro h2; unfold escT; rw [if_neg (by rw [hem]; simp), if_neg h2]
    clear h0
    by_cases hh : sHexOk (ah (dp 1 r) 0) = true
    · have hc1 := hce hh
      have he := he3 (by omega)
      rw [he]
      clear he he2 he3 hcn hce hh
      generalize hX : hx 6 0 0 (dp 1 r) = X at *
      obtain ⟨n, c, u⟩ := X
      have HX := Lib.hid hX
      obtain ⟨hb1, hb2⟩ := hb
      obtain ⟨hc2, hc3⟩ := hc
      dsimp only at *
      clear hX
      by_cases hw : sWhite (ah u 0) = true
      · have hlu := len_of_white hw
        rw [if_pos hw]
        have HW := Lib.hid hw
        go_enter Try.func32, Try.ntmps32
        go_wp2_with (first | (go_at_call 42; (with_reducible refine (hexes_to (by assumption) HX.out).mono ?_); rintro e w1 ⟨rfl, h1⟩) | (go_at_call 43; refine (meant_any n _ ⟨hb1, hb2⟩).mono ?_; rintro e w' ⟨rfl, rfl⟩) | (first | (go_at_call 30; (with_reducible refine (take_any (by repeat (first | assumption | refine Now.alloc ?_ _ | refine Now.set ?_ (by simp; omega) _)) ?_).mono ?_); (first | assumption | grind [ah_end]); rintro e w1 ⟨rfl, h1⟩) | (go_at_call 12; (with_reducible refine (ended_any (by repeat (first | assumption | refine Now.alloc ?_ _ | refine Now.set ?_ (by simp; omega) _))).mono ?_); rintro e w1 ⟨rfl, h1⟩) | (go_at_call 18; (with_reducible refine (ahead_0 (by repeat (first | assumption | refine Now.alloc ?_ _ | refine Now.set ?_ (by simp; omega) _))).mono ?_); rintro e w1 ⟨rfl, h1⟩) | (go_at_call 19; (with_reducible refine (white_any _ _).mono ?_); rintro e w1 ⟨rfl, rfl⟩)))
        go_ret
        exact ⟨rfl, h1⟩
      · rw [if_neg hw]
        have hw2 : sWhite (ah u 0) = false := by simpa using hw
        clear hw
        go_enter Try.func32, Try.ntmps32
        go_wp2_with (first | (go_at_call 42; (with_reducible refine (hexes_to (by assumption) HX.out).mono ?_); rintro e w1 ⟨rfl, h1⟩) | (go_at_call 43; refine (meant_any n _ ⟨hb1, hb2⟩).mono ?_; rintro e w' ⟨rfl, rfl⟩) | (first | (go_at_call 30; (with_reducible refine (take_any (by repeat (first | assumption | refine Now.alloc ?_ _ | refine Now.set ?_ (by simp; omega) _)) ?_).mono ?_); (first | assumption | grind [ah_end]); rintro e w1 ⟨rfl, h1⟩) | (go_at_call 12; (with_reducible refine (ended_any (by repeat (first | assumption | refine Now.alloc ?_ _ | refine Now.set ?_ (by simp; omega) _))).mono ?_); rintro e w1 ⟨rfl, h1⟩) | (go_at_call 18; (with_reducible refine (ahead_0 (by repeat (first | assumption | refine Now.alloc ?_ _ | refine Now.set ?_ (by simp; omega) _))).mono ?_); rintro e w1 ⟨rfl, h1⟩) | (go_at_call 19; (with_reducible refine (white_any _ _).mono ?_); rintro e w1 ⟨rfl, rfl⟩)))
        go_ret
        exact ⟨rfl, h1⟩
    · have hX := hcn (by simpa using hh)
      have he := he2 (by rw [hX])
      rw [he]
      have HX := Lib.hid hX
      clear he he2 he3 hcn hce hh hc hb hX
      go_enter Try.func32, Try.ntmps32
      go_wp2_with (first | (go_at_call 42; (with_reducible refine (hexes_to (by assumption) HX.out).mono ?_); rintro e w1 ⟨rfl, h1⟩) | (first | (go_at_call 30; (with_reducible refine (take_any (by repeat (first | assumption | refine Now.alloc ?_ _ | refine Now.set ?_ (by simp; omega) _)) ?_).mono ?_); (first | assumption | grind [ah_end]); rintro e w1 ⟨rfl, h1⟩) | (go_at_call 12; (with_reducible refine (ended_any (by repeat (first | assumption | refine Now.alloc ?_ _ | refine Now.set ?_ (by simp; omega) _))).mono ?_); rintro e w1 ⟨rfl, h1⟩) | (go_at_call 18; (with_reducible refine (ahead_0 (by repeat (first | assumption | refine Now.alloc ?_ _ | refine Now.set ?_ (by simp; omega) _))).mono ?_); rintro e w1 ⟨rfl, h1⟩) | (go_at_call 19; (with_reducible refine (white_any _ _).mono ?_); rintro e w1 ⟨rfl, rfl⟩)))
      go_ret
      exact ⟨rfl, h1⟩
end
end Go.Proofs.Ytlajkfnlkkgneaa
