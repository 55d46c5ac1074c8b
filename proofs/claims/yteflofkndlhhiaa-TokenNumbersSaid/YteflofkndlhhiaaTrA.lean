
import Derived.Test.YteflofkndlhhiaaTkX
namespace Go.Proofs.Yteflofkndlhhiaa
open Go.RowKit
theorem Now.adv1 {T : TypeId} {g : Nat} {v : Value} {xs r : List Int} {w0 w : World} (h : Now T g v xs r w0 w) (hl : 1 ≤ r.length) : Now T g v xs (dp 1 r) w0 (w.setCell ⟨g, 1, none⟩ (.int .i64 (((xs.length - r.length : Nat) : Int) + 1))) := by
  have h1 := h.st.rlen
  have h2 := dp_len 1 r
  exact h.go ((dp_suf 1 r).trans h.st.suf) (by congr 1; omega)
section
variable {g : Nat} {v : Value} {xs r : List Int} {w0 w : World}
set_option maxRecDepth 100000 in
set_option maxHeartbeats 400000 in
theorem sign_dr (h : St 64 g v xs r w) (n : Nat) (hn : n ≤ 100000000) :
    Calls Try.prog 39 #[.pointer (some ⟨g, 0, none⟩), .int .i64 n] w fun e w' => e = .returned (.int .i32 (ah r n)) ∧ ∃ k, w' = w.drewN k := by
  have c0 := h.cell0
  have c1 := h.cell1
  have hl := h.len
  have hr := h.rlen
  by_cases hlt : n < r.length
  · have hx := h.nth_eq hlt
    have hpos : 0 < xs.length := by omega
    obtain ⟨a, c, rfl, hle, hcell⟩ := h.rd
    obtain ⟨b, off, rfl, hb2, hc⟩ := hcell hpos
    have hc2 := hc (xs.length - r.length + n) (by omega)
    rw [hx] at hc2
    have hd : ¬ (xs.length : Int) ≤ ((xs.length - r.length : Nat) : Int) + (n : Int) := by omega
    have hX := Lib.hid hx
    clear h hx hcell hc
    go_enter Try.func39, Try.ntmps39
    go_wp2
    go_quiet (fail)
    go_wp2
    go_quiet (fail)
    go_wp2
    go_ret
    exact ⟨rfl, _, by first | rfl | exact World.drewN_drewN _ _ _⟩
  · have he : ah r n = -1 := ah_end (by omega)
    have HE := Lib.hid he
    have hd : (xs.length : Int) ≤ ((xs.length - r.length : Nat) : Int) + (n : Int) := by omega
    obtain ⟨a, c, rfl, hle, _⟩ := h.rd
    clear h he
    go_enter Try.func39, Try.ntmps39
    go_wp2
    go_quiet (fail)
    go_wp2
    go_ret
    exact ⟨ret_int HE.out.symm, _, rfl⟩
theorem sign_any (h : Now 64 g v xs r w0 w) (n : Nat) (hn : n ≤ 100000000) :
    Calls Try.prog 39 #[.pointer (some ⟨g, 0, none⟩), .int .i64 n] w fun e w' => e = .returned (.int .i32 (ah r n)) ∧ Now 64 g v xs r w0 w' :=
  (sign_dr h.st n hn).mono fun _ _ ⟨he, k, hk⟩ => ⟨he, hk ▸ h.drewN k⟩
theorem sign_0 (h : Now 64 g v xs r w0 w) :
    Calls Try.prog 39 #[.pointer (some ⟨g, 0, none⟩), .int .i64 0] w fun e w' => e = .returned (.int .i32 (ah r 0)) ∧ Now 64 g v xs r w0 w' := sign_any h 0 (by decide)
theorem sign_1 (h : Now 64 g v xs r w0 w) :
    Calls Try.prog 39 #[.pointer (some ⟨g, 0, none⟩), .int .i64 1] w fun e w' => e = .returned (.int .i32 (ah r 1)) ∧ Now 64 g v xs r w0 w' := sign_any h 1 (by decide)
theorem sign_2 (h : Now 64 g v xs r w0 w) :
    Calls Try.prog 39 #[.pointer (some ⟨g, 0, none⟩), .int .i64 2] w fun e w' => e = .returned (.int .i32 (ah r 2)) ∧ Now 64 g v xs r w0 w' := sign_any h 2 (by decide)
theorem sign_3 (h : Now 64 g v xs r w0 w) :
    Calls Try.prog 39 #[.pointer (some ⟨g, 0, none⟩), .int .i64 3] w fun e w' => e = .returned (.int .i32 (ah r 3)) ∧ Now 64 g v xs r w0 w' := sign_any h 3 (by decide)
theorem resc_0 (h : Now 64 g v xs r w0 w) :
    Calls Try.prog 64 #[.pointer (some ⟨g, 0, none⟩), .int .i64 0] w fun e w' => e = .returned (.bool (esc r 0)) ∧ Now 64 g v xs r w0 w' := by
  go_enter Try.func64, Try.ntmps64
  go_wp2_with (first | (go_at_call 39; (with_reducible refine (sign_0 (by repeat (first | assumption | refine Now.alloc ?_ _ | refine Now.set ?_ (by simp; omega) _))).mono ?_); rintro e w1 ⟨rfl, h1⟩) | (go_at_call 39; (with_reducible refine (sign_1 (by repeat (first | assumption | refine Now.alloc ?_ _ | refine Now.set ?_ (by simp; omega) _))).mono ?_); rintro e w1 ⟨rfl, h1⟩))
  all_goals go_ret
  all_goals exact ⟨ret_bool (by grind [esc]), by assumption⟩
theorem resc_1 (h : Now 64 g v xs r w0 w) :
    Calls Try.prog 64 #[.pointer (some ⟨g, 0, none⟩), .int .i64 1] w fun e w' => e = .returned (.bool (esc r 1)) ∧ Now 64 g v xs r w0 w' := by
  go_enter Try.func64, Try.ntmps64
  go_wp2_with (first | (go_at_call 39; (with_reducible refine (sign_1 (by repeat (first | assumption | refine Now.alloc ?_ _ | refine Now.set ?_ (by simp; omega) _))).mono ?_); rintro e w1 ⟨rfl, h1⟩) | (go_at_call 39; (with_reducible refine (sign_2 (by repeat (first | assumption | refine Now.alloc ?_ _ | refine Now.set ?_ (by simp; omega) _))).mono ?_); rintro e w1 ⟨rfl, h1⟩))
  all_goals go_ret
  all_goals exact ⟨ret_bool (by grind [esc]), by assumption⟩
theorem resc_2 (h : Now 64 g v xs r w0 w) :
    Calls Try.prog 64 #[.pointer (some ⟨g, 0, none⟩), .int .i64 2] w fun e w' => e = .returned (.bool (esc r 2)) ∧ Now 64 g v xs r w0 w' := by
  go_enter Try.func64, Try.ntmps64
  go_wp2_with (first | (go_at_call 39; (with_reducible refine (sign_2 (by repeat (first | assumption | refine Now.alloc ?_ _ | refine Now.set ?_ (by simp; omega) _))).mono ?_); rintro e w1 ⟨rfl, h1⟩) | (go_at_call 39; (with_reducible refine (sign_3 (by repeat (first | assumption | refine Now.alloc ?_ _ | refine Now.set ?_ (by simp; omega) _))).mono ?_); rintro e w1 ⟨rfl, h1⟩))
  all_goals go_ret
  all_goals exact ⟨ret_bool (by grind [esc]), by assumption⟩
theorem rnames_0 (h : Now 64 g v xs r w0 w) :
    Calls Try.prog 65 #[.pointer (some ⟨g, 0, none⟩), .int .i64 0] w fun e w' => e = .returned (.bool (nbg r 0)) ∧ Now 64 g v xs r w0 w' := by
  go_enter Try.func65, Try.ntmps65
  go_wp2_with (first | (go_at_call 39; (with_reducible refine (sign_0 (by repeat (first | assumption | refine Now.alloc ?_ _ | refine Now.set ?_ (by simp; omega) _))).mono ?_); rintro e w1 ⟨rfl, h1⟩) | (go_at_call 39; (with_reducible refine (sign_1 (by repeat (first | assumption | refine Now.alloc ?_ _ | refine Now.set ?_ (by simp; omega) _))).mono ?_); rintro e w1 ⟨rfl, h1⟩) | (go_at_call 87; refine (refletter_any _ _).mono ?_; rintro e w1 ⟨rfl, rfl⟩) | (go_at_call 64; (with_reducible refine (resc_0 (by repeat (first | assumption | refine Now.alloc ?_ _ | refine Now.set ?_ (by simp; omega) _))).mono ?_); rintro e w1 ⟨rfl, h1⟩) | (go_at_call 64; (with_reducible refine (resc_1 (by repeat (first | assumption | refine Now.alloc ?_ _ | refine Now.set ?_ (by simp; omega) _))).mono ?_); rintro e w1 ⟨rfl, h1⟩))
  all_goals go_ret
  all_goals exact ⟨ret_bool (by grind [nbg]), by assumption⟩
theorem rnames_1 (h : Now 64 g v xs r w0 w) :
    Calls Try.prog 65 #[.pointer (some ⟨g, 0, none⟩), .int .i64 1] w fun e w' => e = .returned (.bool (nbg r 1)) ∧ Now 64 g v xs r w0 w' := by
  go_enter Try.func65, Try.ntmps65
  go_wp2_with (first | (go_at_call 39; (with_reducible refine (sign_1 (by repeat (first | assumption | refine Now.alloc ?_ _ | refine Now.set ?_ (by simp; omega) _))).mono ?_); rintro e w1 ⟨rfl, h1⟩) | (go_at_call 39; (with_reducible refine (sign_2 (by repeat (first | assumption | refine Now.alloc ?_ _ | refine Now.set ?_ (by simp; omega) _))).mono ?_); rintro e w1 ⟨rfl, h1⟩) | (go_at_call 87; refine (refletter_any _ _).mono ?_; rintro e w1 ⟨rfl, rfl⟩) | (go_at_call 64; (with_reducible refine (resc_1 (by repeat (first | assumption | refine Now.alloc ?_ _ | refine Now.set ?_ (by simp; omega) _))).mono ?_); rintro e w1 ⟨rfl, h1⟩) | (go_at_call 64; (with_reducible refine (resc_2 (by repeat (first | assumption | refine Now.alloc ?_ _ | refine Now.set ?_ (by simp; omega) _))).mono ?_); rintro e w1 ⟨rfl, h1⟩))
  all_goals go_ret
  all_goals exact ⟨ret_bool (by grind [nbg]), by assumption⟩
theorem rnumbers_any (h : Now 64 g v xs r w0 w) :
    Calls Try.prog 68 #[.pointer (some ⟨g, 0, none⟩)] w fun e w' => e = .returned (.bool (numB r)) ∧ Now 64 g v xs r w0 w' := by
  go_enter Try.func68, Try.ntmps68
  go_wp2_with (first | (go_at_call 39; (with_reducible refine (sign_0 (by repeat (first | assumption | refine Now.alloc ?_ _ | refine Now.set ?_ (by simp; omega) _))).mono ?_); rintro e w1 ⟨rfl, h1⟩) | (go_at_call 39; (with_reducible refine (sign_1 (by repeat (first | assumption | refine Now.alloc ?_ _ | refine Now.set ?_ (by simp; omega) _))).mono ?_); rintro e w1 ⟨rfl, h1⟩) | (go_at_call 39; (with_reducible refine (sign_2 (by repeat (first | assumption | refine Now.alloc ?_ _ | refine Now.set ?_ (by simp; omega) _))).mono ?_); rintro e w1 ⟨rfl, h1⟩) | (go_at_call 67; refine (refdigit_any _ _).mono ?_; rintro e w1 ⟨rfl, rfl⟩))
  all_goals go_ret
  all_goals exact ⟨ret_bool (by grind [numB, sgn, frac]), by assumption⟩
end
end Go.Proofs.Yteflofkndlhhiaa
