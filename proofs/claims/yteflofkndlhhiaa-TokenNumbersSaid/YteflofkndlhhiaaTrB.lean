
import Derived.Test.YteflofkndlhhiaaTrA
namespace Go.Proofs.Yteflofkndlhhiaa
open Go.RowKit
theorem St.ah_ok {T : TypeId} {g : Nat} {v : Value} {xs r : List Int} {w : World} (h : St T g v xs r w) {n : Nat} (hn : n < r.length) : 0 ≤ ah r n ∧ ah r n ≤ 1114111 := by
  have h1 : ah r n = r[n] := by unfold ah; rw [List.getD_eq_getElem?_getD, List.getElem?_eq_getElem hn]; rfl
  rw [h1]
  exact h.rok _ (List.getElem_mem hn)
section
variable {g : Nat} {v : Value} {xs r : List Int} {w0 w : World}
set_option maxRecDepth 100000 in
set_option maxRecDepth 100000 in
set_option maxHeartbeats 1600000 in
theorem rescaped_any (h : Now 64 g v xs r w0 w) :
    Calls Try.prog 86 #[.pointer (some ⟨g, 0, none⟩)] w fun e w' => e = .returned (.int .i32 (escT r).1) ∧ Now 64 g v xs (escT r).2 w0 w' := by
  have hxl := h.st.len
  have hrl := h.st.rlen
  by_cases h0 : r = []
  · subst h0
    have he : escT [] = (65533, []) := rfl
    have hn : (ah [] 0 : Int) < 0 := by decide
    rw [he]
    clear he
    go_enter Try.func86, Try.ntmps86
    go_wp2_with (first | (go_at_call 39; (with_reducible refine (sign_0 (by repeat (first | assumption | refine Now.alloc ?_ _ | refine Now.set ?_ (by simp; omega) _))).mono ?_); rintro e w1 ⟨rfl, h1⟩))
    go_ret
    exact ⟨rfl, h1⟩
  · have hl : 1 ≤ r.length := List.length_pos_iff.2 h0
    have hem : r.isEmpty = false := by simpa using h0
    have hok := (h.st.ah_ok (n := 0) (by omega)).1
    have hnn : ¬ ah r 0 < 0 := by omega
    by_cases hxx : sHexOk (ah r 0) = true
    · have HE := Lib.hid (show ∀ (n : Int) (c : Nat) (u : List Int), hx 6 0 0 r = (n, c, u) → 1 ≤ c → escT r = (meantS n, if sWhite (ah u 0) then dp 1 u else u) by
        intro n c u hh hc
        unfold escT
        rw [if_neg (by rw [hem]; simp), hh, if_neg (by show ¬ c = 0; omega)])
      have HC := Lib.hid (show ∀ (n : Int) (c : Nat) (u : List Int), hx 6 0 0 r = (n, c, u) → 1 ≤ c by
        intro n c u hh
        have := (hx_cnt 5 1 (0 * 16 + sHex (ah r 0)) (dp 1 r)).1
        rw [← hx_yes hxx, hh] at this
        exact this)
      go_enter Try.func86, Try.ntmps86
      go_wp2_with (first | (go_at_call 39; (with_reducible refine (sign_0 (by repeat (first | assumption | refine Now.alloc ?_ _ | refine Now.set ?_ (by simp; omega) _))).mono ?_); rintro e w1 ⟨rfl, h1⟩) | (go_at_call 96; refine (refhex_any _ _).mono ?_; rintro e w1 ⟨rfl, rfl⟩))
      go_loopw [6, 7, 8, 9] (fun nv iv _ _ wr => ∃ (c : Nat) (n : Int) (q : List Int), c ≤ 6 ∧ iv = .int .i64 c ∧ nv = .int .i64 n ∧ hx (6 - c) n c q = hx 6 0 0 r ∧ HxB c n ∧ Now 64 g v xs q w0 wr) (fun _ _ _ _ wr => left g xs.length wr)
      case atStart => exact ⟨0, 0, r, by omega, rfl, rfl, rfl, ⟨by omega, by decide⟩, h1⟩
      case round =>
        obtain ⟨c, n, q, hc, rfl, rfl, hq, hb, hn⟩ := hrel
        have HQ := Lib.hid hq
        have HB := Lib.hid hb
        clear hq hb h1 hxx
        have hql := hn.st.rlen
        have hn1 : 0 ≤ n := HB.out.1
        have hn3 : n < 16777216 := by
          have h2 := HB.out.2
          rcases (by omega : c = 0 ∨ c = 1 ∨ c = 2 ∨ c = 3 ∨ c = 4 ∨ c = 5 ∨ c = 6) with rfl | rfl | rfl | rfl | rfl | rfl | rfl <;> omega
        by_cases hlt : c < 6
        · have hi6 : (c : Int) < 6 := by omega
          obtain ⟨hd1, hd2⟩ := sHex_bd (ah q 0)
          by_cases hx1 : sHexOk (ah q 0) = true
          · have hlq : 1 ≤ q.length := len_of_hex hx1
            have HX := Lib.hid hx1
            go_wp2_with (first | (go_at_call 39; (with_reducible refine (sign_0 hn).mono ?_); rintro e w1 ⟨rfl, h1⟩; have c1 := h1.st.cell1; have f1 := h1.st.free1; have h2 := h1.adv1 hlq) | (first | (go_at_call 96; refine (refhex_any _ _).mono ?_; rintro e w1 ⟨rfl, rfl⟩)))
            go_roundw
            case rel =>
              refine ⟨c + 1, _, dp 1 q, by omega, by go_num, rfl, ?_, ?_, h2⟩
              · rw [← HQ.out, show 6 - c = (6 - (c + 1)) + 1 by omega, hx_yes HX.out]
              · obtain ⟨_, hb2⟩ := HB.out
                refine ⟨by omega, ?_⟩
                rw [Int.pow_succ]
                omega
            case measure => rw [h2.left, hn.left, dp_len]; omega
          · have hx3 : sHexOk (ah q 0) = false := by simpa using hx1
            have HX3 := Lib.hid hx3
            have hX := HQ.out
            rw [hx_no HX3.out] at hX
            have HEE := Lib.hid (HE.out n c q hX.symm (HC.out n c q hX.symm))
            clear hX
            by_cases hw : sWhite (ah q 0) = true
            · have hlw : 1 ≤ q.length := len_of_white hw
              have HW := Lib.hid hw
              go_wp2_with (first | (go_at_call 39; (with_reducible refine (sign_0 hn).mono ?_); rintro e w1 ⟨rfl, h1⟩) | (go_at_call 39; (with_reducible refine (sign_0 h1).mono ?_); rintro e w1 ⟨rfl, h1⟩; have c1 := h1.st.cell1; have f1 := h1.st.free1; have h2 := h1.adv1 hlw) | (first | (go_at_call 96; refine (refhex_any _ _).mono ?_; rintro e w1 ⟨rfl, rfl⟩) | (go_at_call 61; refine (refwhite_any _ _).mono ?_; rintro e w1 ⟨rfl, rfl⟩)))
              all_goals go_ret
              all_goals
                rw [HEE.out]
                rw [if_pos HW.out]
                refine ⟨ret_int ?_, by assumption⟩
                grind [meantS, wrap32]
            · have hw2 : sWhite (ah q 0) = false := by simpa using hw
              have HW := Lib.hid hw
              clear hw
              go_wp2_with (first | (go_at_call 39; (with_reducible refine (sign_0 hn).mono ?_); rintro e w1 ⟨rfl, h1⟩) | (go_at_call 39; (with_reducible refine (sign_0 h1).mono ?_); rintro e w1 ⟨rfl, h1⟩) | (first | (go_at_call 96; refine (refhex_any _ _).mono ?_; rintro e w1 ⟨rfl, rfl⟩) | (go_at_call 61; refine (refwhite_any _ _).mono ?_; rintro e w1 ⟨rfl, rfl⟩)))
              all_goals go_ret
              all_goals
                rw [HEE.out]
                rw [if_neg HW.out]
                refine ⟨ret_int ?_, by assumption⟩
                grind [meantS, wrap32]
        · have hi6 : ¬ (c : Int) < 6 := by omega
          have hX := HQ.out
          rw [show 6 - c = 0 by omega, show hx 0 n c q = (n, c, q) from rfl] at hX
          have HEE := Lib.hid (HE.out n c q hX.symm (HC.out n c q hX.symm))
          clear hX
          by_cases hw : sWhite (ah q 0) = true
          · have hlw : 1 ≤ q.length := len_of_white hw
            have HW := Lib.hid hw
            go_wp2_with (first | (go_at_call 39; (with_reducible refine (sign_0 hn).mono ?_); rintro e w1 ⟨rfl, h1⟩; have c1 := h1.st.cell1; have f1 := h1.st.free1; have h2 := h1.adv1 hlw) | (first | (go_at_call 96; refine (refhex_any _ _).mono ?_; rintro e w1 ⟨rfl, rfl⟩) | (go_at_call 61; refine (refwhite_any _ _).mono ?_; rintro e w1 ⟨rfl, rfl⟩)))
            all_goals go_ret
            all_goals
              rw [HEE.out]
              rw [if_pos HW.out]
              refine ⟨ret_int ?_, by assumption⟩
              grind [meantS, wrap32]
          · have hw2 : sWhite (ah q 0) = false := by simpa using hw
            have HW := Lib.hid hw
            clear hw
            go_wp2_with (first | (go_at_call 39; (with_reducible refine (sign_0 hn).mono ?_); rintro e w1 ⟨rfl, h1⟩) | (first | (go_at_call 96; refine (refhex_any _ _).mono ?_; rintro e w1 ⟨rfl, rfl⟩) | (go_at_call 61; refine (refwhite_any _ _).mono ?_; rintro e w1 ⟨rfl, rfl⟩)))
            all_goals go_ret
            all_goals
              rw [HEE.out]
              rw [if_neg HW.out]
              refine ⟨ret_int ?_, by assumption⟩
              grind [meantS, wrap32]
    · have hx2 : sHexOk (ah r 0) = false := by simpa using hxx
      have he : escT r = (ah r 0, dp 1 r) := by
        unfold escT
        rw [if_neg (by rw [hem]; simp), hx_no hx2, if_pos rfl]
      rw [he]
      clear he hxx
      go_enter Try.func86, Try.ntmps86
      go_wp2_with (first | (go_at_call 39; (with_reducible refine (sign_0 h).mono ?_); rintro e w1 ⟨rfl, h1⟩; have c1 := h1.st.cell1; have f1 := h1.st.free1; have h2 := h1.adv1 hl) | (first | (go_at_call 96; refine (refhex_any _ _).mono ?_; rintro e w1 ⟨rfl, rfl⟩)))
      go_ret
      exact ⟨rfl, h2⟩
end
end Go.Proofs.Yteflofkndlhhiaa
