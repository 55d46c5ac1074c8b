
import Derived.Test.YtfggpenfdfklkaaGreatTkA
import Derived.Laws.BitsAllLaws
import Derived.Laws.BitsLemmas
namespace Go.Proofs.YtfggpenfdfklkaaGreat
open Go.RowKit

/-- How many signs of n are still to come. -/
def left (g n : Nat) (w : World) : Nat := n - (intOf ((w.cell? ⟨g, 1, none⟩).getD undef)).toNat
theorem Now.left {T : TypeId} {g : Nat} {v : Value} {xs r : List Int} {w0 w : World} (h : Now T g v xs r w0 w) : left g xs.length w = r.length := by
  have := h.st.rlen
  unfold Go.Proofs.YtfggpenfdfklkaaGreat.left
  rw [h.st.cell1]
  simp [intOf]
  omega

theorem or16 (x d : Int) (hx : 0 ≤ x) (hx2 : x ≤ 16777216) (hd : 0 ≤ d) (hd2 : d < 16) : bits .or .i64 (x * 16) d = x * 16 + d := by
  obtain ⟨a, rfl⟩ : ∃ a : Nat, x = a := ⟨x.toNat, by omega⟩
  obtain ⟨b, rfl⟩ : ∃ b : Nat, d = b := ⟨d.toNat, by omega⟩
  have e1 : (BitVec.ofInt 64 ((a : Int) * 16)).toNat = a * 16 := by
    rw [show ((a : Int) * 16) = ((a * 16 : Nat) : Int) by omega, BitVec.ofInt_natCast, BitVec.toNat_ofNat]
    exact Nat.mod_eq_of_lt (by omega)
  have e2 : (BitVec.ofInt 64 (b : Int)).toNat = b := by
    rw [BitVec.ofInt_natCast, BitVec.toNat_ofNat]
    exact Nat.mod_eq_of_lt (by omega)
  have e3 : a * 16 ||| b = a * 16 + b := by
    have := Nat.shiftLeft_add_eq_or_of_lt (show b < 2 ^ 4 by omega) a
    rw [Nat.shiftLeft_eq] at this
    exact this.symm
  show IntKind.i64.wrap ((BitVec.ofInt 64 ((a : Int) * 16) ||| BitVec.ofInt 64 (b : Int)).toNat : Int) = _
  rw [BitVec.toNat_or, e1, e2, e3, IntKind.wrap_i64]
  omega

theorem sHex_bd (x : Int) : 0 ≤ sHex x ∧ sHex x < 16 := by
  unfold sHex
  split
  · omega
  · split
    · omega
    · split <;> omega

section
variable {g : Nat} {v : Value} {xs r : List Int} {w0 w : World}
theorem valid_any (a : Int) (w : World) :
    Calls Tryz.prog 129 #[.int .i32 a] w fun e w' => e = .returned (.bool (decide ((0 ≤ a ∧ a < 55296) ∨ (57343 < a ∧ a ≤ 1114111)))) ∧ w = w' := by
  go_enter Tryz.func129, Tryz.ntmps129
  go_wp2
  all_goals go_ret
  all_goals exact ⟨ret_bool (by grind), rfl⟩
theorem meant_any (a : Int) (w : World) (h : 0 ≤ a ∧ a ≤ 16777215) :
    Calls Tryz.prog 120 #[.int .i64 a] w fun e w' => e = .returned (.int .i32 (meantS a)) ∧ w = w' := by
  obtain ⟨h1, h2⟩ := h
  go_enter Tryz.func120, Tryz.ntmps120
  go_wp2_with (first | (go_at_call 129; (with_reducible refine (valid_any _ _).mono ?_); rintro e w1 ⟨rfl, rfl⟩))
  all_goals go_ret
  all_goals exact ⟨ret_int (by grind [meantS]), rfl⟩
theorem escapes_0 (h : Now 80 g v xs r w0 w) :
    Calls Tryz.prog 103 #[.pointer (some ⟨g, 0, none⟩), .int .i64 0] w fun e w' => e = .returned (.bool (esc r 0)) ∧ Now 80 g v xs r w0 w' := by
  go_enter Tryz.func103, Tryz.ntmps103
  go_wp2_with (first | (go_at_call 74; (with_reducible refine (ahead_0 (by repeat (first | assumption | refine Now.alloc ?_ _ | refine Now.set ?_ (by simp; omega) _))).mono ?_); rintro e w1 ⟨rfl, h1⟩) | (go_at_call 74; (with_reducible refine (ahead_1 (by repeat (first | assumption | refine Now.alloc ?_ _ | refine Now.set ?_ (by simp; omega) _))).mono ?_); rintro e w1 ⟨rfl, h1⟩))
  all_goals go_ret
  all_goals exact ⟨ret_bool (by grind [esc]), by assumption⟩
theorem escapes_1 (h : Now 80 g v xs r w0 w) :
    Calls Tryz.prog 103 #[.pointer (some ⟨g, 0, none⟩), .int .i64 1] w fun e w' => e = .returned (.bool (esc r 1)) ∧ Now 80 g v xs r w0 w' := by
  go_enter Tryz.func103, Tryz.ntmps103
  go_wp2_with (first | (go_at_call 74; (with_reducible refine (ahead_1 (by repeat (first | assumption | refine Now.alloc ?_ _ | refine Now.set ?_ (by simp; omega) _))).mono ?_); rintro e w1 ⟨rfl, h1⟩) | (go_at_call 74; (with_reducible refine (ahead_2 (by repeat (first | assumption | refine Now.alloc ?_ _ | refine Now.set ?_ (by simp; omega) _))).mono ?_); rintro e w1 ⟨rfl, h1⟩))
  all_goals go_ret
  all_goals exact ⟨ret_bool (by grind [esc]), by assumption⟩
theorem escapes_2 (h : Now 80 g v xs r w0 w) :
    Calls Tryz.prog 103 #[.pointer (some ⟨g, 0, none⟩), .int .i64 2] w fun e w' => e = .returned (.bool (esc r 2)) ∧ Now 80 g v xs r w0 w' := by
  go_enter Tryz.func103, Tryz.ntmps103
  go_wp2_with (first | (go_at_call 74; (with_reducible refine (ahead_2 (by repeat (first | assumption | refine Now.alloc ?_ _ | refine Now.set ?_ (by simp; omega) _))).mono ?_); rintro e w1 ⟨rfl, h1⟩) | (go_at_call 74; (with_reducible refine (ahead_3 (by repeat (first | assumption | refine Now.alloc ?_ _ | refine Now.set ?_ (by simp; omega) _))).mono ?_); rintro e w1 ⟨rfl, h1⟩))
  all_goals go_ret
  all_goals exact ⟨ret_bool (by grind [esc]), by assumption⟩
theorem nbg_0 (h : Now 80 g v xs r w0 w) :
    Calls Tryz.prog 82 #[.pointer (some ⟨g, 0, none⟩), .int .i64 0] w fun e w' => e = .returned (.bool (nbg r 0)) ∧ Now 80 g v xs r w0 w' := by
  go_enter Tryz.func82, Tryz.ntmps82
  go_wp2_with (first | (go_at_call 74; (with_reducible refine (ahead_0 (by repeat (first | assumption | refine Now.alloc ?_ _ | refine Now.set ?_ (by simp; omega) _))).mono ?_); rintro e w1 ⟨rfl, h1⟩) | (go_at_call 74; (with_reducible refine (ahead_1 (by repeat (first | assumption | refine Now.alloc ?_ _ | refine Now.set ?_ (by simp; omega) _))).mono ?_); rintro e w1 ⟨rfl, h1⟩) | (go_at_call 111; (with_reducible refine (letter_any _ _).mono ?_); rintro e w1 ⟨rfl, rfl⟩) | (go_at_call 103; (with_reducible refine (escapes_0 (by repeat (first | assumption | refine Now.alloc ?_ _ | refine Now.set ?_ (by simp; omega) _))).mono ?_); rintro e w1 ⟨rfl, h1⟩) | (go_at_call 103; (with_reducible refine (escapes_1 (by repeat (first | assumption | refine Now.alloc ?_ _ | refine Now.set ?_ (by simp; omega) _))).mono ?_); rintro e w1 ⟨rfl, h1⟩))
  all_goals go_ret
  all_goals exact ⟨ret_bool (by grind [nbg]), by assumption⟩
theorem nbg_1 (h : Now 80 g v xs r w0 w) :
    Calls Tryz.prog 82 #[.pointer (some ⟨g, 0, none⟩), .int .i64 1] w fun e w' => e = .returned (.bool (nbg r 1)) ∧ Now 80 g v xs r w0 w' := by
  go_enter Tryz.func82, Tryz.ntmps82
  go_wp2_with (first | (go_at_call 74; (with_reducible refine (ahead_1 (by repeat (first | assumption | refine Now.alloc ?_ _ | refine Now.set ?_ (by simp; omega) _))).mono ?_); rintro e w1 ⟨rfl, h1⟩) | (go_at_call 74; (with_reducible refine (ahead_2 (by repeat (first | assumption | refine Now.alloc ?_ _ | refine Now.set ?_ (by simp; omega) _))).mono ?_); rintro e w1 ⟨rfl, h1⟩) | (go_at_call 111; (with_reducible refine (letter_any _ _).mono ?_); rintro e w1 ⟨rfl, rfl⟩) | (go_at_call 103; (with_reducible refine (escapes_1 (by repeat (first | assumption | refine Now.alloc ?_ _ | refine Now.set ?_ (by simp; omega) _))).mono ?_); rintro e w1 ⟨rfl, h1⟩) | (go_at_call 103; (with_reducible refine (escapes_2 (by repeat (first | assumption | refine Now.alloc ?_ _ | refine Now.set ?_ (by simp; omega) _))).mono ?_); rintro e w1 ⟨rfl, h1⟩))
  all_goals go_ret
  all_goals exact ⟨ret_bool (by grind [nbg]), by assumption⟩

theorem wh_white {r : List Int} (h : sWhite (ah r 0) = true) : wh r = wh (dp 1 r) := by
  cases r with
  | nil => rfl
  | cons a t => simp at h; simp [wh, dp, h]
theorem wh_else {r : List Int} (h : sWhite (ah r 0) = false) : wh r = r := by
  cases r with
  | nil => rfl
  | cons a t => simp at h; simp [wh, h]
theorem wh_suf (r : List Int) : wh r <:+ r := List.dropWhile_suffix _
theorem wh_len (r : List Int) : (wh r).length ≤ r.length := (wh_suf r).length_le

set_option maxRecDepth 100000 in
set_option maxHeartbeats 400000 in
theorem whiteW_any (h : Now 80 g v xs r w0 w) :
    Calls Tryz.prog 76 #[.pointer (some ⟨g, 0, none⟩)] w fun e w' => e = .returned (.int .i64 (r.length - (wh r).length)) ∧ Now 80 g v xs (wh r) w0 w' := by
  have c1 := h.st.cell1
  have hr := h.st.rlen
  have hl := h.st.len
  go_enter Tryz.func76, Tryz.ntmps76
  go_wp2
  clear c1
  go_loopw [] (fun wr => ∃ q, wh q = wh r ∧ Now 80 g v xs q w0 wr) (fun wr => left g xs.length wr)
  case atStart => exact ⟨r, rfl, h⟩
  case round =>
    obtain ⟨q, hq, hn⟩ := hrel
    have HQ := Lib.hid hq
    clear hq
    by_cases hw : sWhite (ah q 0) = true
    · have hlq := len_of_white hw
      have HW := Lib.hid hw
      go_wp2_with (first | (go_at_call 74; (with_reducible refine (ahead_0 (by repeat (first | assumption | refine Now.alloc ?_ _ | refine Now.set ?_ (by simp; omega) _))).mono ?_); rintro e w1 ⟨rfl, h1⟩) | (go_at_call 75; (with_reducible refine (white_any _ _).mono ?_); rintro e w1 ⟨rfl, rfl⟩) | (go_at_call 72; (with_reducible refine (skip_1 (by repeat (first | assumption | refine Now.alloc ?_ _ | refine Now.set ?_ (by simp; omega) _)) ?_).mono ?_); (first | assumption | grind [ah_end]); rintro e w1 ⟨rfl, h1⟩))
      go_roundw
      case rel => exact ⟨dp 1 q, by rw [← wh_white HW.out, HQ.out], by assumption⟩
      case measure =>
        rw [h1.left, hn.left, dp_len]
        omega
    · have hqe : q = wh r := by rw [← HQ.out, wh_else (by simpa using hw)]
      subst hqe
      have hl2 := hn.st.rlen
      have hl3 := wh_len r
      have HW := Lib.hid hw
      go_wp2_with (first | (go_at_call 74; refine (ahead_0 (by repeat (first | assumption | refine Now.alloc ?_ _ | refine Now.set ?_ (by simp; omega) _))).mono ?_; rintro e w1 ⟨rfl, h1⟩; have c1 := h1.st.cell1) | (first | (go_at_call 75; (with_reducible refine (white_any _ _).mono ?_); rintro e w1 ⟨rfl, rfl⟩)))
      go_ret
      exact ⟨ret_int (by omega), by assumption⟩
end
end Go.Proofs.YtfggpenfdfklkaaGreat
namespace Go.Proofs.YtfggpenfdfklkaaGreat
open Go.RowKit

/-- Behind a comment's end. -/
def cmEnd : List Int → List Int
  | [] => []
  | a :: t => if pre [42, 47] (a :: t) then dp 2 (a :: t) else cmEnd t
def cmF : Nat → List Int → List Int
  | 0, r => r
  | f + 1, r => if pre [47, 42] r then cmF f (cmEnd (dp 2 r)) else r
/-- Behind all comments. -/
def cm (r : List Int) : List Int := cmF r.length r

theorem cmEnd_suf : ∀ r : List Int, cmEnd r <:+ r
  | [] => List.suffix_refl _
  | a :: t => by
    unfold cmEnd
    split
    · exact dp_suf _ _
    · exact (cmEnd_suf t).trans (List.suffix_cons a t)
theorem cmEnd_len (r : List Int) : (cmEnd r).length ≤ r.length := (cmEnd_suf r).length_le
theorem cmEnd_yes {r : List Int} (h : pre [42, 47] r = true) : cmEnd r = dp 2 r := by
  cases r with
  | nil => rfl
  | cons a t => unfold cmEnd; rw [if_pos h]
theorem cmEnd_no {r : List Int} (h : pre [42, 47] r = false) : cmEnd r = cmEnd (dp 1 r) := by
  cases r with
  | nil => rfl
  | cons a t => conv => lhs; unfold cmEnd
                rw [if_neg (by rw [h]; simp)]; rfl
theorem cmF_fuel : ∀ (f g : Nat) (r : List Int), r.length ≤ f → r.length ≤ g → cmF f r = cmF g r
  | 0, 0, _, _, _ => rfl
  | 0, g + 1, r, h, _ => by
    obtain rfl : r = [] := List.eq_nil_of_length_eq_zero (by omega)
    rfl
  | f + 1, 0, r, _, h => by
    obtain rfl : r = [] := List.eq_nil_of_length_eq_zero (by omega)
    rfl
  | f + 1, g + 1, r, h1, h2 => by
    unfold cmF
    by_cases c : pre [47, 42] r = true
    · have := pre_len c
      have hl := cmEnd_len (dp 2 r)
      rw [dp_len] at hl
      simp only [List.length_cons, List.length_nil] at this
      rw [if_pos c, if_pos c, cmF_fuel f g _ (by omega) (by omega)]
    · rw [if_neg c, if_neg c]
theorem cm_yes {r : List Int} (h : pre [47, 42] r = true) : cm r = cm (cmEnd (dp 2 r)) := by
  have := pre_len h
  have hl := cmEnd_len (dp 2 r)
  rw [dp_len] at hl
  simp only [List.length_cons, List.length_nil] at this
  obtain ⟨n, hn⟩ : ∃ n, r.length = n + 1 := ⟨r.length - 1, by omega⟩
  unfold cm
  rw [hn]
  conv => lhs; unfold cmF
  rw [if_pos h]
  exact cmF_fuel _ _ _ (by omega) (Nat.le_refl _)
theorem cm_no {r : List Int} (h : pre [47, 42] r = false) : cm r = r := by
  unfold cm
  cases r with
  | nil => rfl
  | cons a t =>
    show cmF (t.length + 1) _ = _
    unfold cmF
    rw [if_neg (by rw [h]; simp)]
theorem cmF_suf : ∀ (f : Nat) (r : List Int), cmF f r <:+ r
  | 0, r => List.suffix_refl r
  | f + 1, r => by
    unfold cmF
    split
    · exact (cmF_suf f _).trans ((cmEnd_suf _).trans (dp_suf _ _))
    · exact List.suffix_refl r
theorem cm_suf (r : List Int) : cm r <:+ r := cmF_suf _ _
theorem cm_len (r : List Int) : (cm r).length ≤ r.length := (cm_suf r).length_le

section
variable {g : Nat} {v : Value} {xs r : List Int} {w0 w : World}
set_option maxRecDepth 100000 in
set_option maxHeartbeats 400000 in
theorem comments_any (h : Now 80 g v xs r w0 w) :
    Calls Tryz.prog 50 #[.pointer (some ⟨g, 0, none⟩)] w fun e w' => e = .returned (.tuple #[]) ∧ Now 80 g v xs (cm r) w0 w' := by
  go_enter Tryz.func50, Tryz.ntmps50
  go_wp2
  go_loopw [] (fun wr => ∃ q, cm q = cm r ∧ Now 80 g v xs q w0 wr) (fun wr => left g xs.length wr)
  case atStart => exact ⟨r, rfl, h⟩
  case round =>
    obtain ⟨q, hq, hn⟩ := hrel
    have HQ := Lib.hid hq
    clear hq
    by_cases hc : pre [47, 42] q = true
    · have hlq := pre_len hc
      simp only [List.length_cons, List.length_nil] at hlq
      have HC := Lib.hid hc
      clear hc
      obtain ⟨wo, rfl⟩ : ∃ wo : World, wo = wr := ⟨_, rfl⟩
      go_wp2_with (first | (go_at_call 71; (with_reducible refine (took_any (by repeat (first | assumption | refine Now.alloc ?_ _ | refine Now.set ?_ (by simp; omega) _)) ⟨#[47, 42]⟩ [47, 42] (by decide) (by decide) (by decide)).mono ?_); rintro e w1 (⟨rfl, hp1, h1⟩ | ⟨rfl, hp1, h1⟩)))
      · go_loopw [] (fun wr => ∃ p, cmEnd p = cmEnd (dp 2 q) ∧ p.length ≤ (dp 2 q).length ∧ Now 80 g v xs p w0 wr) (fun wr => left g xs.length wr)
        case atStart => exact ⟨dp 2 q, rfl, Nat.le_refl _, h1⟩
        case round =>
          obtain ⟨p, hp, hpl, hpn⟩ := hrel
          have HP := Lib.hid hp
          clear hp
          have hx := cmEnd_len p
          rw [dp_len] at hpl
          go_wp2_with (first | (go_at_call 51; (with_reducible refine (ended_any (by repeat (first | assumption | refine Now.alloc ?_ _ | refine Now.set ?_ (by simp; omega) _))).mono ?_); rintro e w1 ⟨rfl, h1⟩) | (go_at_call 71; (with_reducible refine (took_any (by repeat (first | assumption | refine Now.alloc ?_ _ | refine Now.set ?_ (by simp; omega) _)) ⟨#[42, 47]⟩ [42, 47] (by decide) (by decide) (by decide)).mono ?_); rintro e w1 (⟨rfl, hp1, h1⟩ | ⟨rfl, hp1, h1⟩)) | (go_at_call 72; (with_reducible refine (skip_1 (by repeat (first | assumption | refine Now.alloc ?_ _ | refine Now.set ?_ (by simp; omega) _)) ?_).mono ?_); (first | assumption | grind [ah_end]); rintro e w1 ⟨rfl, h1⟩))
          · go_roundw
            case rel =>
              have he : p = [] := by assumption
              subst he
              exact ⟨[], by rw [← HQ.out, cm_yes HC.out, ← HP.out]; rfl, h1⟩
            case measure => rw [h1.left, hn.left]; omega
          · go_roundw
            case rel => exact ⟨dp 2 p, by rw [← HQ.out, cm_yes HC.out, ← HP.out, cmEnd_yes hp1], h1⟩
            case measure => rw [h1.left, hn.left, dp_len]; omega
          · have hne : 0 < p.length := List.length_pos_iff.2 (by assumption)
            go_roundw
            case rel => exact ⟨dp 1 p, by rw [← HP.out, cmEnd_no hp1], by rw [dp_len, dp_len]; omega, h1⟩
            case measure => rw [h1.left, hpn.left, dp_len]; omega
          · exfalso
            have hne : ¬ p = [] := by assumption
            have hb : (!p.isEmpty) = false := by assumption
            simp [hne] at hb
      · exact absurd HC.out (by rw [hp1]; simp)
    · go_wp2_with (first | (go_at_call 71; (with_reducible refine (took_any (by repeat (first | assumption | refine Now.alloc ?_ _ | refine Now.set ?_ (by simp; omega) _)) ⟨#[47, 42]⟩ [47, 42] (by decide) (by decide) (by decide)).mono ?_); rintro e w1 (⟨rfl, hp1, h1⟩ | ⟨rfl, hp1, h1⟩)))
      · exact absurd hp1 hc
      · go_end0
        refine ⟨rfl, ?_⟩
        rw [← HQ.out, cm_no hp1]
        exact h1

/-- Hex digits, from a place on. -/
theorem hx_yes {k c : Nat} {n : Int} {r : List Int} (h : sHexOk (ah r 0) = true) : hx (k + 1) n c r = hx k (n * 16 + sHex (ah r 0)) (c + 1) (dp 1 r) := by
  conv => lhs; unfold hx
  rw [if_pos h]
theorem hx_no {k c : Nat} {n : Int} {r : List Int} (h : sHexOk (ah r 0) = false) : hx k n c r = (n, c, r) := by
  cases k with
  | zero => rfl
  | succ k => unfold hx; rw [if_neg (by rw [h]; simp)]

/-- What so many hex digits may tell. -/
def HxB (c : Nat) (n : Int) : Prop := 0 ≤ n ∧ n < 16 ^ c

set_option maxRecDepth 100000 in
set_option maxHeartbeats 400000 in
theorem hexes_any (h : Now 80 g v xs r w0 w) :
    Calls Tryz.prog 119 #[.pointer (some ⟨g, 0, none⟩)] w fun e w' => e = .returned (.tuple #[.int .i64 (hx 6 0 0 r).1, .int .i64 (hx 6 0 0 r).2.1]) ∧ Now 80 g v xs (hx 6 0 0 r).2.2 w0 w' := by
  go_enter Tryz.func119, Tryz.ntmps119
  go_wp2
  go_loopw [2, 3] (fun nv cv wr => ∃ (c : Nat) (n : Int) (q : List Int), c ≤ 6 ∧ nv = .int .i64 n ∧ cv = .int .i64 c ∧ hx (6 - c) n c q = hx 6 0 0 r ∧ HxB c n ∧ Now 80 g v xs q w0 wr) (fun _ _ wr => left g xs.length wr)
  case atStart => exact ⟨0, 0, r, by omega, rfl, rfl, rfl, ⟨by omega, by decide⟩, h⟩
  case round =>
    obtain ⟨c, n, q, hc, rfl, rfl, hq, hb, hn⟩ := hrel
    have HQ := Lib.hid hq
    have HB := Lib.hid hb
    clear hq hb
    by_cases hlt : c < 6
    · have hnb : 0 ≤ n ∧ n < 1048576 := by
        obtain ⟨h1, h2⟩ := HB.out
        refine ⟨h1, ?_⟩
        rcases (by omega : c = 0 ∨ c = 1 ∨ c = 2 ∨ c = 3 ∨ c = 4 ∨ c = 5) with rfl | rfl | rfl | rfl | rfl | rfl <;> omega
      obtain ⟨hn1, hn2⟩ := hnb
      obtain ⟨hd1, hd2⟩ := sHex_bd (ah q 0)
      by_cases hx1 : sHexOk (ah q 0) = true
      · have hlq := len_of_hex hx1
        have HX := Lib.hid hx1
        have ho := or16 n (sHex (ah q 0)) hn1 (by omega) hd1 hd2
        go_wp2_with (first | (go_at_call 74; (with_reducible refine (ahead_0 (by repeat (first | assumption | refine Now.alloc ?_ _ | refine Now.set ?_ (by simp; omega) _))).mono ?_); rintro e w1 ⟨rfl, h1⟩) | (go_at_call 128; (with_reducible refine (hex_any _ _).mono ?_); rintro e w1 ⟨rfl, rfl⟩) | (go_at_call 102; (with_reducible refine (take_any (by repeat (first | assumption | refine Now.alloc ?_ _ | refine Now.set ?_ (by simp; omega) _)) ?_).mono ?_); (first | assumption | grind [ah_end]); rintro e w1 ⟨rfl, h1⟩))
        go_roundw
        case rel =>
          refine ⟨c + 1, _, dp 1 q, by omega, rfl, by go_num, ?_, ?_, h1⟩
          · rw [← HQ.out, show 6 - c = (6 - (c + 1)) + 1 by omega, hx_yes HX.out]
          · obtain ⟨_, hb2⟩ := HB.out
            refine ⟨by omega, ?_⟩
            rw [Int.pow_succ]
            omega
        case measure => rw [h1.left, hn.left, dp_len]; omega
      · have HX := Lib.hid hx1
        have hx2 : sHexOk (ah q 0) = false := by simpa using hx1
        go_wp2_with (first | (go_at_call 74; (with_reducible refine (ahead_0 (by repeat (first | assumption | refine Now.alloc ?_ _ | refine Now.set ?_ (by simp; omega) _))).mono ?_); rintro e w1 ⟨rfl, h1⟩) | (go_at_call 128; (with_reducible refine (hex_any _ _).mono ?_); rintro e w1 ⟨rfl, rfl⟩))
        have he : hx 6 0 0 r = (n, c, q) := by rw [← HQ.out, hx_no hx2]
        go_ret2
        rw [he]
        exact ⟨rfl, h1⟩
    · go_wp2
      have he : hx 6 0 0 r = (n, c, q) := by rw [← HQ.out, show 6 - c = 0 by omega]; rfl
      go_ret2
      rw [he]
      exact ⟨rfl, hn⟩

theorem hx_bd : ∀ (k c : Nat) (n : Int) (r : List Int), 0 ≤ n → n < 16 ^ c → 0 ≤ (hx k n c r).1 ∧ (hx k n c r).1 < 16 ^ (c + k)
  | 0, c, n, r, h0, h1 => ⟨h0, h1⟩
  | k + 1, c, n, r, h0, h1 => by
    unfold hx
    have hd := sHex_bd (ah r 0)
    split
    · have := hx_bd k (c + 1) (n * 16 + sHex (ah r 0)) (dp 1 r) (by omega) (by rw [Int.pow_succ]; omega)
      rw [show c + (k + 1) = c + 1 + k by omega]
      exact this
    · refine ⟨h0, ?_⟩
      have e : (16 : Int) ^ (c + (k + 1)) = 16 ^ c * 16 ^ (k + 1) := Int.pow_add ..
      have e2 : (1 : Int) ≤ 16 ^ (k + 1) := Int.pow_pos (by decide)
      have e3 : (16 : Int) ^ c * 1 ≤ 16 ^ c * 16 ^ (k + 1) := Int.mul_le_mul_of_nonneg_left e2 (by omega)
      rw [e]
      show n < _
      omega
theorem hx6_bd (r : List Int) : 0 ≤ (hx 6 0 0 r).1 ∧ (hx 6 0 0 r).1 ≤ 16777215 := by
  have := hx_bd 6 0 0 r (by omega) (by decide)
  omega

theorem hx_cnt : ∀ (k c : Nat) (n : Int) (r : List Int), c ≤ (hx k n c r).2.1 ∧ (hx k n c r).2.1 ≤ c + k
  | 0, c, n, r => ⟨Nat.le_refl _, Nat.le_refl _⟩
  | k + 1, c, n, r => by
    unfold hx
    split
    · have := hx_cnt k (c + 1) (n * 16 + sHex (ah r 0)) (dp 1 r)
      omega
    · dsimp only
      omega
theorem hexes_to (h : Now 80 g v xs r w0 w) {n : Int} {c : Nat} {u : List Int} (he : hx 6 0 0 r = (n, c, u)) :
    Calls Tryz.prog 119 #[.pointer (some ⟨g, 0, none⟩)] w fun e w' => e = .returned (.tuple #[.int .i64 n, .int .i64 c]) ∧ Now 80 g v xs u w0 w' := by
  have := hexes_any h
  rw [he] at this
  exact this

set_option maxRecDepth 100000 in
set_option maxHeartbeats 400000 in
theorem escape_any (h : Now 80 g v xs r w0 w) (hl : 1 ≤ r.length) :
    Calls Tryz.prog 104 #[.pointer (some ⟨g, 0, none⟩)] w fun e w' => e = .returned (.int .i32 (escT (dp 1 r)).1) ∧ Now 80 g v xs (escT (dp 1 r)).2 w0 w' := by
  by_cases h0 : (dp 1 r) = []
  · have he : escT (dp 1 r) = (65533, []) := by simp [escT, h0]
    have H0 := Lib.hid h0
    have hem : (dp 1 r).isEmpty = true := by simp [h0]
    rw [he]
    clear he h0
    go_enter Tryz.func104, Tryz.ntmps104
    go_wp2_with (first | (go_at_call 102; (with_reducible refine (take_any (by repeat (first | assumption | refine Now.alloc ?_ _ | refine Now.set ?_ (by simp; omega) _)) ?_).mono ?_); (first | assumption | grind [ah_end]); rintro e w1 ⟨rfl, h1⟩) | (go_at_call 51; (with_reducible refine (ended_any (by repeat (first | assumption | refine Now.alloc ?_ _ | refine Now.set ?_ (by simp; omega) _))).mono ?_); rintro e w1 ⟨rfl, h1⟩))
    go_ret
    rw [H0.out] at h1
    exact ⟨rfl, h1⟩
  · have hem : (dp 1 r).isEmpty = false := by simpa using h0
    have hlen : 1 ≤ (dp 1 r).length := List.length_pos_iff.2 h0
    have hb := hx6_bd (dp 1 r)
    have hc := hx_cnt 6 0 0 (dp 1 r)
    have hce : sHexOk (ah (dp 1 r) 0) = true → 1 ≤ (hx 6 0 0 (dp 1 r)).2.1 := by
      intro hh
      rw [hx_yes hh]
      exact (hx_cnt 5 1 _ _).1
    have hcn : sHexOk (ah (dp 1 r) 0) = false → hx 6 0 0 (dp 1 r) = (0, 0, dp 1 r) := hx_no
    have he2 : (hx 6 0 0 (dp 1 r)).2.1 = 0 → escT (dp 1 r) = (ah (dp 1 r) 0, dp 1 (dp 1 r)) := by intro h2; unfold escT; rw [if_neg (by rw [hem]; simp), if_pos h2]
    have he3 : (hx 6 0 0 (dp 1 r)).2.1 ≠ 0 → escT (dp 1 r) = (meantS (hx 6 0 0 (dp 1 r)).1, if sWhite (ah (hx 6 0 0 (dp 1 r)).2.2 0) then dp 1 (hx 6 0 0 (dp 1 r)).2.2 else (hx 6 0 0 (dp 1 r)).2.2) := by intro h2; unfold escT; rw [if_neg (by rw [hem]; simp), if_neg h2]
    clear h0
    by_cases hh : sHexOk (ah (dp 1 r) 0) = true
    · have hc1 := hce hh
      have he := he3 (by omega)
      rw [he]
      clear he he2 he3 hcn hce hh
      generalize hX : hx 6 0 0 (dp 1 r) = X at *
      obtain ⟨n, c, u⟩ := X
      have HX := Lib.hid hX
      obtain ⟨hb1, hb2⟩ := hb
      obtain ⟨hc2, hc3⟩ := hc
      dsimp only at *
      clear hX
      by_cases hw : sWhite (ah u 0) = true
      · have hlu := len_of_white hw
        rw [if_pos hw]
        have HW := Lib.hid hw
        go_enter Tryz.func104, Tryz.ntmps104
        go_wp2_with (first | (go_at_call 119; (with_reducible refine (hexes_to (by assumption) HX.out).mono ?_); rintro e w1 ⟨rfl, h1⟩) | (go_at_call 120; refine (meant_any n _ ⟨hb1, hb2⟩).mono ?_; rintro e w' ⟨rfl, rfl⟩) | (first | (go_at_call 102; (with_reducible refine (take_any (by repeat (first | assumption | refine Now.alloc ?_ _ | refine Now.set ?_ (by simp; omega) _)) ?_).mono ?_); (first | assumption | grind [ah_end]); rintro e w1 ⟨rfl, h1⟩) | (go_at_call 51; (with_reducible refine (ended_any (by repeat (first | assumption | refine Now.alloc ?_ _ | refine Now.set ?_ (by simp; omega) _))).mono ?_); rintro e w1 ⟨rfl, h1⟩) | (go_at_call 74; (with_reducible refine (ahead_0 (by repeat (first | assumption | refine Now.alloc ?_ _ | refine Now.set ?_ (by simp; omega) _))).mono ?_); rintro e w1 ⟨rfl, h1⟩) | (go_at_call 75; (with_reducible refine (white_any _ _).mono ?_); rintro e w1 ⟨rfl, rfl⟩)))
        go_ret
        exact ⟨rfl, h1⟩
      · rw [if_neg hw]
        have hw2 : sWhite (ah u 0) = false := by simpa using hw
        clear hw
        go_enter Tryz.func104, Tryz.ntmps104
        go_wp2_with (first | (go_at_call 119; (with_reducible refine (hexes_to (by assumption) HX.out).mono ?_); rintro e w1 ⟨rfl, h1⟩) | (go_at_call 120; refine (meant_any n _ ⟨hb1, hb2⟩).mono ?_; rintro e w' ⟨rfl, rfl⟩) | (first | (go_at_call 102; (with_reducible refine (take_any (by repeat (first | assumption | refine Now.alloc ?_ _ | refine Now.set ?_ (by simp; omega) _)) ?_).mono ?_); (first | assumption | grind [ah_end]); rintro e w1 ⟨rfl, h1⟩) | (go_at_call 51; (with_reducible refine (ended_any (by repeat (first | assumption | refine Now.alloc ?_ _ | refine Now.set ?_ (by simp; omega) _))).mono ?_); rintro e w1 ⟨rfl, h1⟩) | (go_at_call 74; (with_reducible refine (ahead_0 (by repeat (first | assumption | refine Now.alloc ?_ _ | refine Now.set ?_ (by simp; omega) _))).mono ?_); rintro e w1 ⟨rfl, h1⟩) | (go_at_call 75; (with_reducible refine (white_any _ _).mono ?_); rintro e w1 ⟨rfl, rfl⟩)))
        go_ret
        exact ⟨rfl, h1⟩
    · have hX := hcn (by simpa using hh)
      have he := he2 (by rw [hX])
      rw [he]
      have HX := Lib.hid hX
      clear he he2 he3 hcn hce hh hc hb hX
      go_enter Tryz.func104, Tryz.ntmps104
      go_wp2_with (first | (go_at_call 119; (with_reducible refine (hexes_to (by assumption) HX.out).mono ?_); rintro e w1 ⟨rfl, h1⟩) | (first | (go_at_call 102; (with_reducible refine (take_any (by repeat (first | assumption | refine Now.alloc ?_ _ | refine Now.set ?_ (by simp; omega) _)) ?_).mono ?_); (first | assumption | grind [ah_end]); rintro e w1 ⟨rfl, h1⟩) | (go_at_call 51; (with_reducible refine (ended_any (by repeat (first | assumption | refine Now.alloc ?_ _ | refine Now.set ?_ (by simp; omega) _))).mono ?_); rintro e w1 ⟨rfl, h1⟩) | (go_at_call 74; (with_reducible refine (ahead_0 (by repeat (first | assumption | refine Now.alloc ?_ _ | refine Now.set ?_ (by simp; omega) _))).mono ?_); rintro e w1 ⟨rfl, h1⟩) | (go_at_call 75; (with_reducible refine (white_any _ _).mono ?_); rintro e w1 ⟨rfl, rfl⟩)))
      go_ret
      exact ⟨rfl, h1⟩
end
end Go.Proofs.YtfggpenfdfklkaaGreat
namespace Go.Proofs.YtfggpenfdfklkaaGreat
open Go.RowKit

/-- A text so far: a row of signs that is newer than block number B. -/
def Txt (B : Nat) (w : World) (tv : Value) (out : List Int) : Prop := w.ownsRow B 21 1 tv out.length (out.map (Value.int .i32))

theorem Txt.nil (B : Nat) (w : World) : Txt B w (.slice none 0 0) [] := World.ownsRow_nil _ _ _ _
theorem Txt.kept {B g : Nat} {w w' : World} {tv : Value} {out : List Int} (h : Txt B w tv out) (hg : Gw g w w') (hB : g < B) : Txt B w' tv out := by
  unfold Txt at h ⊢
  refine h.kept hg ?_
  by_cases e : tv.ownBlock = none
  · exact .inl e
  · refine .inr fun e2 => ?_
    have := (h.lt g e2).1
    omega
theorem Txt.keeps {B g : Nat} {w w' : World} {T : TypeId} {v : Value} {xs r : List Int} {tv : Value} {out : List Int} (h : Txt B w tv out) (hn : Now T g v xs r w w') (hB : g < B) : Txt B w' tv out := h.kept hn.gw hB
theorem Txt.row {B : Nat} {w : World} {tv : Value} {out : List Int} (h : Txt B w tv out) : ∀ k, tv.ownBlock = some k → B ≤ k := fun k hk => (World.ownsRow.lt h k hk).1
theorem Txt.conv {B : Nat} {w : World} {tv : Value} {out : List Int} (h : Txt B w tv out) :
    (convert 59 9 tv).run Tryz.prog w = .ok (.string (runesBytes out)) w := by
  have hr := Rd.own h
  obtain ⟨a, c, rfl, hle, hc⟩ := hr
  by_cases h0 : 0 < out.length
  · obtain ⟨b, off, rfl, hb, hcell⟩ := hc h0
    have := run_convert_runes (P := Tryz.prog) w 59 9 21 ⟨b, off, none⟩ out.length c out (Nat.le_refl _) Tryz.underlying59 Tryz.underlying21 Tryz.underlying9 (fun j hj => by
      have h1 := hcell j hj
      have hadd : (⟨b, off, none⟩ : Addr).add j = ⟨b, off + j, none⟩ := by unfold Addr.add; split <;> simp_all
      rw [hadd, h1]
      simp [nth, List.getD_eq_getElem?_getD, List.getElem?_eq_getElem hj])
    rw [List.take_of_length_le (Nat.le_refl _)] at this
    exact this
  · obtain rfl : out = [] := List.eq_nil_of_length_eq_zero (by omega)
    cases a with
    | none =>
      have := run_convert_runes_nil (P := Tryz.prog) w 59 9 21 0 c Tryz.underlying59 Tryz.underlying21 Tryz.underlying9
      simpa [runesBytes] using this
    | some a =>
      have := run_convert_runes (P := Tryz.prog) w 59 9 21 a 0 c [] (Nat.le_refl _) Tryz.underlying59 Tryz.underlying21 Tryz.underlying9 (fun j hj => by simp at hj)
      simpa using this

/-- One sign more. -/
theorem Txt.push {T : TypeId} {g : Nat} {v : Value} {xs q q' : List Int} {w0 wr w1 w4 : World} {tv v' : Value} {out : List Int} {x : Int} {o : Obj} (ho : Txt w0.heap.size wr tv out)
    (HN : Now T g v xs q w0 wr) (h1 : Now T g v xs q' wr w1) (ho4 : w4.ownsRow w0.heap.size 21 1 v' (out.length + 1) (out.map (Value.int .i32) ++ [.int .i32 x])) (hg4 : (w1.alloc o).grownBy w4 tv.ownBlock) :
    Txt w0.heap.size w4 v' (out ++ [x]) ∧ Now T g v xs q' w0 w4 := by
  refine ⟨?_, ((h1.since HN).alloc o).grown hg4 ho.row⟩
  unfold Txt
  rw [List.length_append, List.map_append]
  exact ho4

theorem nm_length : ∀ (f : Nat) (r : List Int), (nmF f r).1.length ≤ f
  | 0, r => Nat.le_refl _
  | f + 1, r => by
    unfold nmF
    split
    · simpa using nm_length f (dp 1 r)
    · split
      · simpa using nm_length f (escT (dp 1 r)).2
      · simp
theorem nm_suf : ∀ (f : Nat) (r : List Int), (nmF f r).2 <:+ r
  | 0, r => List.suffix_refl r
  | f + 1, r => by
    unfold nmF
    split
    · exact (nm_suf f _).trans (dp_suf _ _)
    · split
      · exact (nm_suf f _).trans ((escT_suf _).trans (dp_suf _ _))
      · exact List.suffix_refl r

section
variable {g : Nat} {v : Value} {xs r : List Int} {w0 w : World}
set_option maxRecDepth 100000 in
set_option maxHeartbeats 800000 in
theorem nameW_any (h : Now 80 g v xs r w0 w) :
    Calls Tryz.prog 106 #[.pointer (some ⟨g, 0, none⟩)] w fun e w' => e = .returned (.string (runesBytes (nm r).1)) ∧ Now 80 g v xs (nm r).2 w0 w' := by
  obtain ⟨i0, hi, hz0, hz1, hz2⟩ := info_parts info_i32
  have hgo := h.old
  have hrl := h.st.rlen'
  have hnl := nm_length r.length r
  go_enter Tryz.func106, Tryz.ntmps106
  go_wp2
  go_loopw [3] (fun tv wr => ∃ out q, out ++ (nm q).1 = (nm r).1 ∧ (nm q).2 = (nm r).2 ∧ Txt w0.heap.size wr tv out ∧ Now 80 g v xs q w0 wr) (fun _ wr => left g xs.length wr)
  case atStart => exact ⟨[], r, rfl, rfl, Txt.nil _ _, h⟩
  case round =>
    obtain ⟨out, q, hq1, hq2, ho, hn⟩ := hrel
    have hol : out.length ≤ 100000000 := by
      have := congrArg List.length hq1
      rw [List.length_append] at this
      unfold nm at this
      omega
    have HQ1 := Lib.hid hq1
    have HQ2 := Lib.hid hq2
    clear hq1 hq2
    have hws := hn.gw.size
    have hnr := hn.st.now
    have HN := Lib.hid hn
    clear hn
    by_cases c1 : sName (ah q 0) = true
    · have hlq : 1 ≤ q.length := len_of_name c1
      have C1 := Lib.hid c1
      go_wp2_with (first | (go_at_call 102; (with_reducible refine (take_any (by repeat (first | assumption | refine Now.alloc ?_ _ | refine Now.set ?_ (by simp; omega) _)) hlq).mono ?_); rintro e w1 ⟨rfl, h1⟩; have hs1 := h1.gw.size) | (go_at_call 74; (with_reducible refine (ahead_0 (by repeat (first | assumption | refine Now.alloc ?_ _ | refine Now.set ?_ (by simp; omega) _))).mono ?_); rintro e w1 ⟨rfl, h1⟩) | (go_at_call 105; (with_reducible refine (name_any _ _).mono ?_); rintro e w1 ⟨rfl, rfl⟩) | (at_builtin; refine wpList_append_own _ rfl _ _ 59 rfl w0.heap.size 21 i0 (.int .i32 0) 1 4 Tryz.underlying59 hi hz0 hz1 hz2 rfl (by decide) _ _ _ rfl ((ho.keeps h1 hgo).alloc _) ⟨_, 0, none⟩ 1 1 [.int .i32 _] rfl rfl (cell_one_new _ _ _) (fun u hu => by simp at hu; subst hu; rfl) (by unfold maxLen; omega) (by omega) (by simp; omega) ?_; intro v' w4 ho4 hg4 _))
      obtain ⟨p1, p2⟩ := Txt.push ho HN.out h1 ho4 hg4
      go_roundw
      case rel => exact ⟨_, _, by rw [← HQ1.out, nm_name C1.out, List.append_assoc]; rfl, by rw [← HQ2.out, nm_name C1.out], p1, p2⟩
      case measure => rw [p2.left, HN.out.left, dp_len]; omega
    · have c2 : sName (ah q 0) = false := by simpa using c1
      clear c1
      have C1 := Lib.hid c2
      by_cases c3 : esc q 0 = true
      · have hlq : 1 ≤ q.length := len_of_esc c3
        have hel := escT_len (dp 1 q)
        rw [dp_len] at hel
        have C3 := Lib.hid c3
        go_wp2_with (first | (go_at_call 104; (with_reducible refine (escape_any (by repeat (first | assumption | refine Now.alloc ?_ _ | refine Now.set ?_ (by simp; omega) _)) hlq).mono ?_); rintro e w1 ⟨rfl, h1⟩; have hs1 := h1.gw.size) | (go_at_call 103; (with_reducible refine (escapes_0 (by repeat (first | assumption | refine Now.alloc ?_ _ | refine Now.set ?_ (by simp; omega) _))).mono ?_); rintro e w1 ⟨rfl, h1⟩) | (go_at_call 74; (with_reducible refine (ahead_0 (by repeat (first | assumption | refine Now.alloc ?_ _ | refine Now.set ?_ (by simp; omega) _))).mono ?_); rintro e w1 ⟨rfl, h1⟩) | (go_at_call 105; (with_reducible refine (name_any _ _).mono ?_); rintro e w1 ⟨rfl, rfl⟩) | (at_builtin; refine wpList_append_own _ rfl _ _ 59 rfl w0.heap.size 21 i0 (.int .i32 0) 1 4 Tryz.underlying59 hi hz0 hz1 hz2 rfl (by decide) _ _ _ rfl ((ho.keeps h1 hgo).alloc _) ⟨_, 0, none⟩ 1 1 [.int .i32 _] rfl rfl (cell_one_new _ _ _) (fun u hu => by simp at hu; subst hu; rfl) (by unfold maxLen; omega) (by omega) (by simp; omega) ?_; intro v' w4 ho4 hg4 _))
        obtain ⟨p1, p2⟩ := Txt.push ho HN.out h1 ho4 hg4
        go_roundw
        case rel => exact ⟨_, _, by rw [← HQ1.out, nm_esc C1.out C3.out, List.append_assoc]; rfl, by rw [← HQ2.out, nm_esc C1.out C3.out], p1, p2⟩
        case measure => rw [p2.left, HN.out.left]; omega
      · have c4 : esc q 0 = false := by simpa using c3
        clear c3
        have C4 := Lib.hid c4
        go_wp2_with (first | (go_at_call 103; (with_reducible refine (escapes_0 (by repeat (first | assumption | refine Now.alloc ?_ _ | refine Now.set ?_ (by simp; omega) _))).mono ?_); rintro e w1 ⟨rfl, h1⟩; have hcv := (ho.keeps h1 hgo).conv) | (first | (go_at_call 74; (with_reducible refine (ahead_0 (by repeat (first | assumption | refine Now.alloc ?_ _ | refine Now.set ?_ (by simp; omega) _))).mono ?_); rintro e w1 ⟨rfl, h1⟩) | (go_at_call 105; (with_reducible refine (name_any _ _).mono ?_); rintro e w1 ⟨rfl, rfl⟩)))
        go_ret
        have e1 : (nm r).1 = out := by rw [← HQ1.out, nm_else C1.out C4.out]; simp
        have e2 : (nm r).2 = q := by rw [← HQ2.out, nm_else C1.out C4.out]
        rw [e1, e2]
        exact ⟨rfl, h1.since HN.out⟩
end
end Go.Proofs.YtfggpenfdfklkaaGreat
namespace Go.Proofs.YtfggpenfdfklkaaGreat
open Go.RowKit

def sgn (r : List Int) (n : Nat) : Bool := decide (ah r n = 43 ∨ ah r n = 45)
def frac (r : List Int) (n : Nat) : Bool := decide (ah r n = 46) && sDigit (ah r (n + 1))
def numB (r : List Int) : Bool := if sgn r 0 then sDigit (ah r 1) || frac r 1 else sDigit (ah r 0) || frac r 0
def expo (r : List Int) : Nat := if ah r 0 = 101 ∨ ah r 0 = 69 then (if sgn r 1 then (if sDigit (ah r 2) then 2 else 0) else (if sDigit (ah r 1) then 1 else 0)) else 0
def cnt (r : List Int) : List Int := r.dropWhile sDigit

theorem cnt_yes {r : List Int} (h : sDigit (ah r 0) = true) : cnt r = cnt (dp 1 r) := by
  cases r with
  | nil => rfl
  | cons a t => simp at h; simp [cnt, dp, h]
theorem cnt_no {r : List Int} (h : sDigit (ah r 0) = false) : cnt r = r := by
  cases r with
  | nil => rfl
  | cons a t => simp at h; simp [cnt, h]
theorem cnt_suf (r : List Int) : cnt r <:+ r := List.dropWhile_suffix _

section
variable {g : Nat} {v : Value} {xs r : List Int} {w0 w : World}
theorem signed_0 (h : Now 80 g v xs r w0 w) :
    Calls Tryz.prog 107 #[.pointer (some ⟨g, 0, none⟩), .int .i64 0] w fun e w' => e = .returned (.bool (sgn r 0)) ∧ Now 80 g v xs r w0 w' := by
  go_enter Tryz.func107, Tryz.ntmps107
  go_wp2_with (first | (go_at_call 74; (with_reducible refine (ahead_0 (by repeat (first | assumption | refine Now.alloc ?_ _ | refine Now.set ?_ (by simp; omega) _))).mono ?_); rintro e w1 ⟨rfl, h1⟩))
  all_goals go_ret
  all_goals exact ⟨ret_bool (by grind [sgn]), by assumption⟩
theorem signed_1 (h : Now 80 g v xs r w0 w) :
    Calls Tryz.prog 107 #[.pointer (some ⟨g, 0, none⟩), .int .i64 1] w fun e w' => e = .returned (.bool (sgn r 1)) ∧ Now 80 g v xs r w0 w' := by
  go_enter Tryz.func107, Tryz.ntmps107
  go_wp2_with (first | (go_at_call 74; (with_reducible refine (ahead_1 (by repeat (first | assumption | refine Now.alloc ?_ _ | refine Now.set ?_ (by simp; omega) _))).mono ?_); rintro e w1 ⟨rfl, h1⟩))
  all_goals go_ret
  all_goals exact ⟨ret_bool (by grind [sgn]), by assumption⟩
theorem frac_0 (h : Now 80 g v xs r w0 w) :
    Calls Tryz.prog 109 #[.pointer (some ⟨g, 0, none⟩), .int .i64 0] w fun e w' => e = .returned (.bool (frac r 0)) ∧ Now 80 g v xs r w0 w' := by
  go_enter Tryz.func109, Tryz.ntmps109
  go_wp2_with (first | (go_at_call 74; (with_reducible refine (ahead_0 (by repeat (first | assumption | refine Now.alloc ?_ _ | refine Now.set ?_ (by simp; omega) _))).mono ?_); rintro e w1 ⟨rfl, h1⟩) | (go_at_call 74; (with_reducible refine (ahead_1 (by repeat (first | assumption | refine Now.alloc ?_ _ | refine Now.set ?_ (by simp; omega) _))).mono ?_); rintro e w1 ⟨rfl, h1⟩) | (go_at_call 108; (with_reducible refine (digit_any _ _).mono ?_); rintro e w1 ⟨rfl, rfl⟩))
  all_goals go_ret
  all_goals exact ⟨ret_bool (by grind [frac]), by assumption⟩
theorem frac_1 (h : Now 80 g v xs r w0 w) :
    Calls Tryz.prog 109 #[.pointer (some ⟨g, 0, none⟩), .int .i64 1] w fun e w' => e = .returned (.bool (frac r 1)) ∧ Now 80 g v xs r w0 w' := by
  go_enter Tryz.func109, Tryz.ntmps109
  go_wp2_with (first | (go_at_call 74; (with_reducible refine (ahead_1 (by repeat (first | assumption | refine Now.alloc ?_ _ | refine Now.set ?_ (by simp; omega) _))).mono ?_); rintro e w1 ⟨rfl, h1⟩) | (go_at_call 74; (with_reducible refine (ahead_2 (by repeat (first | assumption | refine Now.alloc ?_ _ | refine Now.set ?_ (by simp; omega) _))).mono ?_); rintro e w1 ⟨rfl, h1⟩) | (go_at_call 108; (with_reducible refine (digit_any _ _).mono ?_); rintro e w1 ⟨rfl, rfl⟩))
  all_goals go_ret
  all_goals exact ⟨ret_bool (by grind [frac]), by assumption⟩
theorem numB_any (h : Now 80 g v xs r w0 w) :
    Calls Tryz.prog 80 #[.pointer (some ⟨g, 0, none⟩)] w fun e w' => e = .returned (.bool (numB r)) ∧ Now 80 g v xs r w0 w' := by
  go_enter Tryz.func80, Tryz.ntmps80
  go_wp2_with (first | (go_at_call 107; (with_reducible refine (signed_0 (by repeat (first | assumption | refine Now.alloc ?_ _ | refine Now.set ?_ (by simp; omega) _))).mono ?_); rintro e w1 ⟨rfl, h1⟩) | (go_at_call 74; (with_reducible refine (ahead_0 (by repeat (first | assumption | refine Now.alloc ?_ _ | refine Now.set ?_ (by simp; omega) _))).mono ?_); rintro e w1 ⟨rfl, h1⟩) | (go_at_call 74; (with_reducible refine (ahead_1 (by repeat (first | assumption | refine Now.alloc ?_ _ | refine Now.set ?_ (by simp; omega) _))).mono ?_); rintro e w1 ⟨rfl, h1⟩) | (go_at_call 108; (with_reducible refine (digit_any _ _).mono ?_); rintro e w1 ⟨rfl, rfl⟩) | (go_at_call 109; (with_reducible refine (frac_0 (by repeat (first | assumption | refine Now.alloc ?_ _ | refine Now.set ?_ (by simp; omega) _))).mono ?_); rintro e w1 ⟨rfl, h1⟩) | (go_at_call 109; (with_reducible refine (frac_1 (by repeat (first | assumption | refine Now.alloc ?_ _ | refine Now.set ?_ (by simp; omega) _))).mono ?_); rintro e w1 ⟨rfl, h1⟩))
  all_goals go_ret
  all_goals exact ⟨ret_bool (by grind [numB]), by assumption⟩
theorem expo_any (h : Now 80 g v xs r w0 w) :
    Calls Tryz.prog 122 #[.pointer (some ⟨g, 0, none⟩)] w fun e w' => e = .returned (.int .i64 (expo r)) ∧ Now 80 g v xs r w0 w' := by
  go_enter Tryz.func122, Tryz.ntmps122
  go_wp2_with (first | (go_at_call 107; (with_reducible refine (signed_1 (by repeat (first | assumption | refine Now.alloc ?_ _ | refine Now.set ?_ (by simp; omega) _))).mono ?_); rintro e w1 ⟨rfl, h1⟩) | (go_at_call 74; (with_reducible refine (ahead_0 (by repeat (first | assumption | refine Now.alloc ?_ _ | refine Now.set ?_ (by simp; omega) _))).mono ?_); rintro e w1 ⟨rfl, h1⟩) | (go_at_call 74; (with_reducible refine (ahead_1 (by repeat (first | assumption | refine Now.alloc ?_ _ | refine Now.set ?_ (by simp; omega) _))).mono ?_); rintro e w1 ⟨rfl, h1⟩) | (go_at_call 74; (with_reducible refine (ahead_2 (by repeat (first | assumption | refine Now.alloc ?_ _ | refine Now.set ?_ (by simp; omega) _))).mono ?_); rintro e w1 ⟨rfl, h1⟩) | (go_at_call 108; (with_reducible refine (digit_any _ _).mono ?_); rintro e w1 ⟨rfl, rfl⟩))
  all_goals go_ret
  all_goals exact ⟨ret_int (by grind [expo]), by assumption⟩
set_option maxRecDepth 100000 in
set_option maxHeartbeats 400000 in
theorem countW_any (h : Now 80 g v xs r w0 w) :
    Calls Tryz.prog 121 #[.pointer (some ⟨g, 0, none⟩)] w fun e w' => e = .returned (.tuple #[]) ∧ Now 80 g v xs (cnt r) w0 w' := by
  go_enter Tryz.func121, Tryz.ntmps121
  go_wp2
  go_loopw [] (fun wr => ∃ q, cnt q = cnt r ∧ Now 80 g v xs q w0 wr) (fun wr => left g xs.length wr)
  case atStart => exact ⟨r, rfl, h⟩
  case round =>
    obtain ⟨q, hq, hn⟩ := hrel
    have HQ := Lib.hid hq
    clear hq
    by_cases hw : sDigit (ah q 0) = true
    · have hlq := len_of_digit hw
      have HW := Lib.hid hw
      go_wp2_with (first | (go_at_call 74; (with_reducible refine (ahead_0 (by repeat (first | assumption | refine Now.alloc ?_ _ | refine Now.set ?_ (by simp; omega) _))).mono ?_); rintro e w1 ⟨rfl, h1⟩) | (go_at_call 108; (with_reducible refine (digit_any _ _).mono ?_); rintro e w1 ⟨rfl, rfl⟩) | (go_at_call 72; (with_reducible refine (skip_1 (by repeat (first | assumption | refine Now.alloc ?_ _ | refine Now.set ?_ (by simp; omega) _)) ?_).mono ?_); (first | assumption | grind [ah_end]); rintro e w1 ⟨rfl, h1⟩))
      go_roundw
      case rel => exact ⟨dp 1 q, by rw [← cnt_yes HW.out, HQ.out], h1⟩
      case measure =>
        rw [h1.left, hn.left, dp_len]
        omega
    · have hw2 : sDigit (ah q 0) = false := by simpa using hw
      have HW := Lib.hid hw2
      go_wp2_with (first | (go_at_call 74; (with_reducible refine (ahead_0 (by repeat (first | assumption | refine Now.alloc ?_ _ | refine Now.set ?_ (by simp; omega) _))).mono ?_); rintro e w1 ⟨rfl, h1⟩) | (go_at_call 108; (with_reducible refine (digit_any _ _).mono ?_); rintro e w1 ⟨rfl, rfl⟩))
      go_end0
      refine ⟨rfl, ?_⟩
      rw [← HQ.out, cnt_no HW.out]
      exact h1
end

/-- A token. -/
structure Tok where
  kind : Int
  text : ByteArray := ⟨#[]⟩
  int : Int := 0
  whole : Bool := false
  sign : Bool := false
  id : Bool := false
def Tok.val (t : Tok) : Value := .agg #[.int .i64 t.kind, .string t.text, .int .i64 t.int, .bool t.whole, .bool t.sign, .bool t.id]

/-- A token of one sign. -/
def markT (a : Int) : Tok :=
  if a = 44 then { kind := 18 } else if a = 58 then { kind := 16 } else if a = 59 then { kind := 17 } else
  if a = 40 ∨ a = 91 ∨ a = 123 then { kind := 19, text := Utf8.encode a } else if a = 41 ∨ a = 93 ∨ a = 125 then { kind := 20, text := Utf8.encode a } else { kind := 9, text := Utf8.encode a }

/-- A token's cells, none written yet. -/
abbrev zeroT : Obj := .cells #[.int .i64 0, .string ⟨#[]⟩, .int .i64 0, .bool false, .bool false, .bool false] 47

section
variable {T : TypeId} {g : Nat} {v : Value} {xs r : List Int} {w0 w w1 : World}
theorem Now.res (h : Now T g v xs r (w.alloc zeroT) w1) (hg : g < w.heap.size) :
    w1.cell? ⟨w.heap.size, 0, none⟩ = some (.int .i64 0) ∧ w1.cell? ⟨w.heap.size, 1, none⟩ = some (.string ⟨#[]⟩) ∧ w1.cell? ⟨w.heap.size, 2, none⟩ = some (.int .i64 0) ∧
    w1.cell? ⟨w.heap.size, 3, none⟩ = some (.bool false) ∧ w1.cell? ⟨w.heap.size, 4, none⟩ = some (.bool false) ∧ w1.cell? ⟨w.heap.size, 5, none⟩ = some (.bool false) ∧
    w1.frozen? ⟨w.heap.size, 0, none⟩ = false ∧ w1.frozen? ⟨w.heap.size, 1, none⟩ = false ∧ w1.frozen? ⟨w.heap.size, 2, none⟩ = false ∧
    w1.frozen? ⟨w.heap.size, 3, none⟩ = false ∧ w1.frozen? ⟨w.heap.size, 4, none⟩ = false ∧ w1.frozen? ⟨w.heap.size, 5, none⟩ = false := by
  have hb : w1.heap[w.heap.size]? = some zeroT := by
    rw [h.gw.block w.heap.size (by simp) (by intro e; injection e; omega)]
    exact heap_alloc_self _ _
  refine ⟨?_, ?_, ?_, ?_, ?_, ?_, ?_, ?_, ?_, ?_, ?_, ?_⟩ <;> simp [World.cell?, World.frozen?, hb]
theorem Now.wrote {r' : List Int} (h1 : Now T g v xs r' (w.alloc zeroT) w1) (h : Now T g v xs r w0 w) (a b c d e f : Value) :
    Now T g v xs r' w0 ((((((w1.setCell ⟨w.heap.size, 0, none⟩ a).setCell ⟨w.heap.size, 1, none⟩ b).setCell ⟨w.heap.size, 2, none⟩ c).setCell ⟨w.heap.size, 3, none⟩ d).setCell ⟨w.heap.size, 4, none⟩ e).setCell ⟨w.heap.size, 5, none⟩ f) := by
  have hs := h.gw.size
  exact ((((((h1.since (h.alloc zeroT)).set hs a).set hs b).set hs c).set hs d).set hs e).set hs f
end

section
variable {g : Nat} {v : Value} {xs r : List Int} {w0 w : World}
set_option maxRecDepth 100000 in
set_option maxHeartbeats 400000 in
theorem mark_any (h : Now 80 g v xs r w0 w) (hl : 1 ≤ r.length) :
    Calls Tryz.prog 84 #[.pointer (some ⟨g, 0, none⟩)] w fun e w' => e = .returned (markT (ah r 0)).val ∧ Now 80 g v xs (dp 1 r) w0 w' := by
  have hA := (h.alloc zeroT).st.now
  have hgo := h.st.lt
  go_enter Tryz.func84, Tryz.ntmps84
  go_wp2_with (first | (go_at_call 102; refine (take_any hA hl).mono ?_; rintro e w1 ⟨rfl, h1⟩; have hc := h1.res hgo) | (first | (go_at_call 113; (with_reducible refine (put_any _ _).mono ?_); rintro e w1 ⟨rfl, rfl⟩)))
  all_goals refine bodyPost_ret (v := (markT (ah r 0)).val) ?_ rfl ⟨rfl, h1.wrote h _ _ _ _ _ _⟩
  all_goals simp [results, Tryz.results84, go_sem, hc]
  all_goals clear hA h1 hc h hl
  all_goals generalize ah r 0 = a at *
  all_goals simp_all [markT, Tok.val]
  all_goals trace_state
end
end Go.Proofs.YtfggpenfdfklkaaGreat
namespace Go.Proofs.YtfggpenfdfklkaaGreat
open Go.RowKit

theorem dp_lt {r : List Int} (h : ¬ r.isEmpty = true) : (dp 1 r).length < r.length := by
  rw [dp_len]
  have : r ≠ [] := by simpa using h
  have := List.length_pos_iff.2 this
  omega
theorem dp2_lt {r : List Int} (h : ¬ r.isEmpty = true) : (dp 2 r).length < r.length := by
  rw [dp_len]
  have : r ≠ [] := by simpa using h
  have := List.length_pos_iff.2 this
  omega
theorem escT_lt {r : List Int} (h : ¬ r.isEmpty = true) : (escT (dp 1 r)).2.length < r.length := Nat.lt_of_le_of_lt (escT_len _) (dp_lt h)

/-- A string behind its quote q: is it whole, its signs, and what is behind. -/
def qt (q : Int) (r : List Int) : Bool × List Int × List Int :=
  if _h : r.isEmpty then (true, [], []) else if ah r 0 = q then (true, [], dp 1 r) else if ah r 0 = 10 then (false, [], r) else
  if ah r 0 ≠ 92 then ((qt q (dp 1 r)).1, ah r 0 :: (qt q (dp 1 r)).2.1, (qt q (dp 1 r)).2.2) else
  if r.length ≤ 1 then (true, [], []) else
  if esc r 0 then ((qt q (escT (dp 1 r)).2).1, (escT (dp 1 r)).1 :: (qt q (escT (dp 1 r)).2).2.1, (qt q (escT (dp 1 r)).2).2.2) else qt q (dp 2 r)
termination_by r.length
decreasing_by
  all_goals first | exact dp_lt ‹_› | exact escT_lt ‹_› | exact dp2_lt ‹_›

/-- What is behind a URL that may not be. -/
def badT (r : List Int) : List Int :=
  if _h : r.isEmpty then [] else if ah r 0 = 41 then dp 1 r else if esc r 0 then badT (escT (dp 1 r)).2 else badT (dp 1 r)
termination_by r.length
decreasing_by
  all_goals first | exact dp_lt ‹_› | exact escT_lt ‹_›

def spoil (r : Int) : Bool := decide (r = 34 ∨ r = 39 ∨ r = 40 ∨ r = 92 ∨ r = 11 ∨ r = 127 ∨ (0 ≤ r ∧ r ≤ 8) ∨ (14 ≤ r ∧ r ≤ 31))

/-- A URL from its first sign on: may it be, its signs, and what is behind. -/
def adr (r : List Int) : Bool × List Int × List Int :=
  if _h : r.isEmpty then (true, [], []) else if ah r 0 = 41 then (true, [], dp 1 r) else
  if esc r 0 then ((adr (escT (dp 1 r)).2).1, (escT (dp 1 r)).1 :: (adr (escT (dp 1 r)).2).2.1, (adr (escT (dp 1 r)).2).2.2) else
  if sWhite (ah r 0) then (if (wh r).isEmpty then (true, [], []) else if ah (wh r) 0 = 41 then (true, [], dp 1 (wh r)) else (false, [], badT (wh r))) else
  if spoil (ah r 0) then (false, [], badT r) else ((adr (dp 1 r)).1, ah r 0 :: (adr (dp 1 r)).2.1, (adr (dp 1 r)).2.2)
termination_by r.length
decreasing_by
  all_goals first | exact dp_lt ‹_› | exact escT_lt ‹_›

def tokQ (k1 k2 : Int) (X : Bool × List Int × List Int) : Tok := if X.1 then { kind := k1, text := runesBytes X.2.1 } else { kind := k2 }
def urlT (name : ByteArray) (r : List Int) : Tok × List Int :=
  if ah (wh (dp 1 r)) 0 = 34 ∨ ah (wh (dp 1 r)) 0 = 39 then ({ kind := 2, text := name }, dp ((dp 1 r).length - (wh (dp 1 r)).length - 1) (dp 1 r)) else
  (tokQ 7 8 (adr (wh (dp 1 r))), (adr (wh (dp 1 r))).2.2)
def identT (r : List Int) : Tok × List Int :=
  if ah (nm r).2 0 ≠ 40 then ({ kind := 1, text := runesBytes (nm r).1 }, (nm r).2) else
  if ((lowS (runesBytes (nm r).1)).toList == [117, 114, 108]) = true then urlT (runesBytes (nm r).1) (nm r).2 else ({ kind := 2, text := runesBytes (nm r).1 }, dp 1 (nm r).2)
def quotedT (r : List Int) : Tok × List Int := (tokQ 5 6 (qt (ah r 0) (dp 1 r)), (qt (ah r 0) (dp 1 r)).2.2)
def hashT (r : List Int) : Tok × List Int :=
  if sName (ah r 1) || esc r 1 then ({ kind := 4, text := runesBytes (nm (dp 1 r)).1, id := nbg (dp 1 r) 0 }, (nm (dp 1 r)).2) else (markT (ah r 0), dp 1 r)
def atT (r : List Int) : Tok × List Int :=
  if nbg r 1 then ({ kind := 3, text := runesBytes (nm (dp 1 r)).1 }, (nm (dp 1 r)).2) else (markT (ah r 0), dp 1 r)

/-- A number's text: digits as bytes. -/
def digV (l : List Int) : Int := l.foldl (fun n x => min (n * 10 + (x - 48)) 2147483648) 0
/-- The digits of a text's bytes. -/
def digR (l : List Int) : Int := if l.all sDigit then digV l else 0
def digOk (l : List Int) : Bool := l.all sDigit && !l.isEmpty
def intV (l : List Int) : Int :=
  if l.head? = some 45 then (if digOk l.tail then - digR l.tail else 0) else
  if l.head? = some 43 then (if digOk l.tail then min (digR l.tail) 2147483647 else 0) else
  if digOk l then min (digR l) 2147483647 else 0

def num1 (r : List Int) : List Int := if sgn r 0 then dp 1 r else r
def num2 (r : List Int) : List Int := cnt (num1 r)
def num3 (r : List Int) : List Int := if frac (num2 r) 0 then cnt (dp 1 (num2 r)) else num2 r
def num4 (r : List Int) : List Int := if 0 < expo (num3 r) then cnt (dp (expo (num3 r)) (num3 r)) else num3 r
def numW (r : List Int) : Bool := !frac (num2 r) 0 && decide (expo (num3 r) = 0)
def plainT (r : List Int) : Tok := { kind := 0, int := if numW r then intV (nums (runesBytes (r.take (r.length - (num2 r).length)))) else 0, whole := numW r, sign := sgn r 0 }
def numberT (r : List Int) : Tok × List Int :=
  if nbg (num4 r) 0 then ({ plainT r with kind := 12, text := runesBytes (nm (num4 r)).1 }, (nm (num4 r)).2) else
  if pre [37] (num4 r) then ({ plainT r with kind := 11 }, dp 1 (num4 r)) else ({ plainT r with kind := 10 }, num4 r)

/-- The token that begins here, and what is behind it. -/
def tokT (r : List Int) : Tok × List Int :=
  if sWhite (ah r 0) then ({ kind := 13 }, wh r) else if ah r 0 = 34 ∨ ah r 0 = 39 then quotedT r else if ah r 0 = 35 then hashT r else if ah r 0 = 64 then atT r else
  if numB r then numberT r else if pre [45, 45, 62] r then ({ kind := 15 }, dp 3 r) else if pre [60, 33, 45, 45] r then ({ kind := 14 }, dp 4 r) else
  if nbg r 0 then identT r else (markT (ah r 0), dp 1 r)

theorem qt_suf (q : Int) (r : List Int) : (qt q r).2.2 <:+ r := by
  induction r using qt.induct q with
  | case1 r h => unfold qt; rw [dif_pos h]; exact List.nil_suffix
  | case2 r h h2 => unfold qt; rw [dif_neg h, if_pos h2]; exact dp_suf _ _
  | case3 r h h2 h3 => unfold qt; rw [dif_neg h, if_neg h2, if_pos h3]; exact List.suffix_refl _
  | case4 r h h2 h3 h4 ih => unfold qt; rw [dif_neg h, if_neg h2, if_neg h3, if_pos h4]; exact ih.trans (dp_suf _ _)
  | case5 r h h2 h3 h4 h5 => unfold qt; rw [dif_neg h, if_neg h2, if_neg h3, if_neg h4, if_pos h5]; exact List.nil_suffix
  | case6 r h h2 h3 h4 h5 h6 ih => unfold qt; rw [dif_neg h, if_neg h2, if_neg h3, if_neg h4, if_neg h5, if_pos h6]; exact ih.trans ((escT_suf _).trans (dp_suf _ _))
  | case7 r h h2 h3 h4 h5 h6 ih => unfold qt; rw [dif_neg h, if_neg h2, if_neg h3, if_neg h4, if_neg h5, if_neg h6]; exact ih.trans (dp_suf _ _)
theorem badT_suf (r : List Int) : badT r <:+ r := by
  induction r using badT.induct with
  | case1 r h => unfold badT; rw [dif_pos h]; exact List.nil_suffix
  | case2 r h h2 => unfold badT; rw [dif_neg h, if_pos h2]; exact dp_suf _ _
  | case3 r h h2 h3 ih => unfold badT; rw [dif_neg h, if_neg h2, if_pos h3]; exact ih.trans ((escT_suf _).trans (dp_suf _ _))
  | case4 r h h2 h3 ih => unfold badT; rw [dif_neg h, if_neg h2, if_neg h3]; exact ih.trans (dp_suf _ _)
theorem adr_suf (r : List Int) : (adr r).2.2 <:+ r := by
  induction r using adr.induct with
  | case1 r h => unfold adr; rw [dif_pos h]; exact List.nil_suffix
  | case2 r h h2 => unfold adr; rw [dif_neg h, if_pos h2]; exact dp_suf _ _
  | case3 r h h2 h3 ih => unfold adr; rw [dif_neg h, if_neg h2, if_pos h3]; exact ih.trans ((escT_suf _).trans (dp_suf _ _))
  | case4 r h h2 h3 h4 h5 => unfold adr; rw [dif_neg h, if_neg h2, if_neg h3, if_pos h4, if_pos h5]; exact List.nil_suffix
  | case5 r h h2 h3 h4 h5 h6 => unfold adr; rw [dif_neg h, if_neg h2, if_neg h3, if_pos h4, if_neg h5, if_pos h6]; exact (dp_suf _ _).trans (wh_suf _)
  | case6 r h h2 h3 h4 h5 h6 => unfold adr; rw [dif_neg h, if_neg h2, if_neg h3, if_pos h4, if_neg h5, if_neg h6]; exact (badT_suf _).trans (wh_suf _)
  | case7 r h h2 h3 h4 h5 => unfold adr; rw [dif_neg h, if_neg h2, if_neg h3, if_neg h4, if_pos h5]; exact badT_suf _
  | case8 r h h2 h3 h4 h5 ih => unfold adr; rw [dif_neg h, if_neg h2, if_neg h3, if_neg h4, if_neg h5]; exact ih.trans (dp_suf _ _)
end Go.Proofs.YtfggpenfdfklkaaGreat
