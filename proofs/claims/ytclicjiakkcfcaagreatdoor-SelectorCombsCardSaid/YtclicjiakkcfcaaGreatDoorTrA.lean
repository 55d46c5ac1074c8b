import Derived.Test.YtclicjiakkcfcaaGreatDoorTkU
set_option maxRecDepth 100000
set_option maxHeartbeats 1600000
namespace Go.Proofs.YtclicjiakkcfcaaGreatDoor
open Go.RowKit
theorem Now.adv1 {T : TypeId} {g : Nat} {v : Value} {xs r : List Int} {w0 w : World} (h : Now T g v xs r w0 w) (hl : 1 ≤ r.length) : Now T g v xs (dp 1 r) w0 (w.setCell ⟨g, 1, none⟩ (.int .i64 (((xs.length - r.length : Nat) : Int) + 1))) := by
 have h1 := h.st.rlen
 have h2 := dp_len 1 r
 exact h.go ((dp_suf 1 r).trans h.st.suf) (by congr 1; omega)
section
variable {g : Nat} {v : Value} {xs r : List Int} {w0 w : World}
theorem sign_dr (h : St 101 g v xs r w) (n : Nat) (hn : n ≤ 100000000) :
    Calls Tryz.prog 28 #[.pointer (some ⟨g, 0, none⟩), .int .i64 n] w fun e w' => e = .returned (.int .i32 (ah r n)) ∧ ∃ k, w' = w.drewN k := by
  have c0 := h.cell0
  have c1 := h.cell1
  have hl := h.len
  have hr := h.rlen
  by_cases hlt : n < r.length
  · have hx := h.nth_eq hlt
    have hpos : 0 < xs.length := by omega
    obtain ⟨a, c, rfl, hle, hcell⟩ := h.rd
    obtain ⟨b, off, rfl, hb2, hc⟩ := hcell hpos
    have hc2 := hc (xs.length - r.length + n) (by omega)
    rw [hx] at hc2
    have hd : ¬ (xs.length : Int) ≤ ((xs.length - r.length : Nat) : Int) + (n : Int) := by omega
    have hX := Lib.hid hx
    clear h hx hcell hc
    go_enter Tryz.func28, Tryz.ntmps28
    go_wp2
    go_quiet (fail)
    go_wp2
    go_quiet (fail)
    go_wp2
    go_ret
    exact ⟨rfl, _, by first | rfl | exact World.drewN_drewN _ _ _⟩
  · have he : ah r n = -1 := ah_end (by omega)
    have HE := Lib.hid he
    have hd : (xs.length : Int) ≤ ((xs.length - r.length : Nat) : Int) + (n : Int) := by omega
    obtain ⟨a, c, rfl, hle, _⟩ := h.rd
    clear h he
    go_enter Tryz.func28, Tryz.ntmps28
    go_wp2
    go_quiet (fail)
    go_wp2
    go_ret
    exact ⟨ret_int HE.out.symm, _, rfl⟩
theorem sign_any (h : Now 101 g v xs r w0 w) (n : Nat) (hn : n ≤ 100000000) :
    Calls Tryz.prog 28 #[.pointer (some ⟨g, 0, none⟩), .int .i64 n] w fun e w' => e = .returned (.int .i32 (ah r n)) ∧ Now 101 g v xs r w0 w' :=
  (sign_dr h.st n hn).mono fun _ _ ⟨he, k, hk⟩ => ⟨he, hk ▸ h.drewN k⟩
theorem sign_0 (h : Now 101 g v xs r w0 w) :
    Calls Tryz.prog 28 #[.pointer (some ⟨g, 0, none⟩), .int .i64 0] w fun e w' => e = .returned (.int .i32 (ah r 0)) ∧ Now 101 g v xs r w0 w' := sign_any h 0 (by decide)
theorem sign_1 (h : Now 101 g v xs r w0 w) :
    Calls Tryz.prog 28 #[.pointer (some ⟨g, 0, none⟩), .int .i64 1] w fun e w' => e = .returned (.int .i32 (ah r 1)) ∧ Now 101 g v xs r w0 w' := sign_any h 1 (by decide)
theorem sign_2 (h : Now 101 g v xs r w0 w) :
    Calls Tryz.prog 28 #[.pointer (some ⟨g, 0, none⟩), .int .i64 2] w fun e w' => e = .returned (.int .i32 (ah r 2)) ∧ Now 101 g v xs r w0 w' := sign_any h 2 (by decide)
theorem sign_3 (h : Now 101 g v xs r w0 w) :
    Calls Tryz.prog 28 #[.pointer (some ⟨g, 0, none⟩), .int .i64 3] w fun e w' => e = .returned (.int .i32 (ah r 3)) ∧ Now 101 g v xs r w0 w' := sign_any h 3 (by decide)
theorem resc_0 (h : Now 101 g v xs r w0 w) :
    Calls Tryz.prog 47 #[.pointer (some ⟨g, 0, none⟩), .int .i64 0] w fun e w' => e = .returned (.bool (esc r 0)) ∧ Now 101 g v xs r w0 w' := by
  go_enter Tryz.func47, Tryz.ntmps47
  go_wp2_with (first | (go_at_call 28; (with_reducible refine (sign_0 (by repeat (first | assumption | refine Now.alloc ?_ _ | refine Now.set ?_ (by simp; omega) _))).mono ?_); rintro e w1 ⟨rfl, h1⟩) | (go_at_call 28; (with_reducible refine (sign_1 (by repeat (first | assumption | refine Now.alloc ?_ _ | refine Now.set ?_ (by simp; omega) _))).mono ?_); rintro e w1 ⟨rfl, h1⟩))
  all_goals go_ret
  all_goals exact ⟨ret_bool (by grind [esc]), by assumption⟩
theorem resc_1 (h : Now 101 g v xs r w0 w) :
    Calls Tryz.prog 47 #[.pointer (some ⟨g, 0, none⟩), .int .i64 1] w fun e w' => e = .returned (.bool (esc r 1)) ∧ Now 101 g v xs r w0 w' := by
  go_enter Tryz.func47, Tryz.ntmps47
  go_wp2_with (first | (go_at_call 28; (with_reducible refine (sign_1 (by repeat (first | assumption | refine Now.alloc ?_ _ | refine Now.set ?_ (by simp; omega) _))).mono ?_); rintro e w1 ⟨rfl, h1⟩) | (go_at_call 28; (with_reducible refine (sign_2 (by repeat (first | assumption | refine Now.alloc ?_ _ | refine Now.set ?_ (by simp; omega) _))).mono ?_); rintro e w1 ⟨rfl, h1⟩))
  all_goals go_ret
  all_goals exact ⟨ret_bool (by grind [esc]), by assumption⟩
theorem resc_2 (h : Now 101 g v xs r w0 w) :
    Calls Tryz.prog 47 #[.pointer (some ⟨g, 0, none⟩), .int .i64 2] w fun e w' => e = .returned (.bool (esc r 2)) ∧ Now 101 g v xs r w0 w' := by
  go_enter Tryz.func47, Tryz.ntmps47
  go_wp2_with (first | (go_at_call 28; (with_reducible refine (sign_2 (by repeat (first | assumption | refine Now.alloc ?_ _ | refine Now.set ?_ (by simp; omega) _))).mono ?_); rintro e w1 ⟨rfl, h1⟩) | (go_at_call 28; (with_reducible refine (sign_3 (by repeat (first | assumption | refine Now.alloc ?_ _ | refine Now.set ?_ (by simp; omega) _))).mono ?_); rintro e w1 ⟨rfl, h1⟩))
  all_goals go_ret
  all_goals exact ⟨ret_bool (by grind [esc]), by assumption⟩
theorem rnames_0 (h : Now 101 g v xs r w0 w) :
    Calls Tryz.prog 48 #[.pointer (some ⟨g, 0, none⟩), .int .i64 0] w fun e w' => e = .returned (.bool (nbg r 0)) ∧ Now 101 g v xs r w0 w' := by
  go_enter Tryz.func48, Tryz.ntmps48
  go_wp2_with (first | (go_at_call 28; (with_reducible refine (sign_0 (by repeat (first | assumption | refine Now.alloc ?_ _ | refine Now.set ?_ (by simp; omega) _))).mono ?_); rintro e w1 ⟨rfl, h1⟩) | (go_at_call 28; (with_reducible refine (sign_1 (by repeat (first | assumption | refine Now.alloc ?_ _ | refine Now.set ?_ (by simp; omega) _))).mono ?_); rintro e w1 ⟨rfl, h1⟩) | (go_at_call 70; refine (refletter_any _ _).mono ?_; rintro e w1 ⟨rfl, rfl⟩) | (go_at_call 47; (with_reducible refine (resc_0 (by repeat (first | assumption | refine Now.alloc ?_ _ | refine Now.set ?_ (by simp; omega) _))).mono ?_); rintro e w1 ⟨rfl, h1⟩) | (go_at_call 47; (with_reducible refine (resc_1 (by repeat (first | assumption | refine Now.alloc ?_ _ | refine Now.set ?_ (by simp; omega) _))).mono ?_); rintro e w1 ⟨rfl, h1⟩))
  all_goals go_ret
  all_goals exact ⟨ret_bool (by grind [nbg]), by assumption⟩
theorem rnames_1 (h : Now 101 g v xs r w0 w) :
    Calls Tryz.prog 48 #[.pointer (some ⟨g, 0, none⟩), .int .i64 1] w fun e w' => e = .returned (.bool (nbg r 1)) ∧ Now 101 g v xs r w0 w' := by
  go_enter Tryz.func48, Tryz.ntmps48
  go_wp2_with (first | (go_at_call 28; (with_reducible refine (sign_1 (by repeat (first | assumption | refine Now.alloc ?_ _ | refine Now.set ?_ (by simp; omega) _))).mono ?_); rintro e w1 ⟨rfl, h1⟩) | (go_at_call 28; (with_reducible refine (sign_2 (by repeat (first | assumption | refine Now.alloc ?_ _ | refine Now.set ?_ (by simp; omega) _))).mono ?_); rintro e w1 ⟨rfl, h1⟩) | (go_at_call 70; refine (refletter_any _ _).mono ?_; rintro e w1 ⟨rfl, rfl⟩) | (go_at_call 47; (with_reducible refine (resc_1 (by repeat (first | assumption | refine Now.alloc ?_ _ | refine Now.set ?_ (by simp; omega) _))).mono ?_); rintro e w1 ⟨rfl, h1⟩) | (go_at_call 47; (with_reducible refine (resc_2 (by repeat (first | assumption | refine Now.alloc ?_ _ | refine Now.set ?_ (by simp; omega) _))).mono ?_); rintro e w1 ⟨rfl, h1⟩))
  all_goals go_ret
  all_goals exact ⟨ret_bool (by grind [nbg]), by assumption⟩
theorem rnumbers_any (h : Now 101 g v xs r w0 w) :
    Calls Tryz.prog 51 #[.pointer (some ⟨g, 0, none⟩)] w fun e w' => e = .returned (.bool (numB r)) ∧ Now 101 g v xs r w0 w' := by
  go_enter Tryz.func51, Tryz.ntmps51
  go_wp2_with (first | (go_at_call 28; (with_reducible refine (sign_0 (by repeat (first | assumption | refine Now.alloc ?_ _ | refine Now.set ?_ (by simp; omega) _))).mono ?_); rintro e w1 ⟨rfl, h1⟩) | (go_at_call 28; (with_reducible refine (sign_1 (by repeat (first | assumption | refine Now.alloc ?_ _ | refine Now.set ?_ (by simp; omega) _))).mono ?_); rintro e w1 ⟨rfl, h1⟩) | (go_at_call 28; (with_reducible refine (sign_2 (by repeat (first | assumption | refine Now.alloc ?_ _ | refine Now.set ?_ (by simp; omega) _))).mono ?_); rintro e w1 ⟨rfl, h1⟩) | (go_at_call 50; refine (refdigit_any _ _).mono ?_; rintro e w1 ⟨rfl, rfl⟩))
  all_goals go_ret
  all_goals exact ⟨ret_bool (by grind [numB, sgn, frac]), by assumption⟩
end
theorem St.ah_ok {T : TypeId} {g : Nat} {v : Value} {xs r : List Int} {w : World} (h : St T g v xs r w) {n : Nat} (hn : n < r.length) : 0 ≤ ah r n ∧ ah r n ≤ 1114111 := by
 have h1 : ah r n = r[n] := by unfold ah; rw [List.getD_eq_getElem?_getD, List.getElem?_eq_getElem hn]; rfl
 rw [h1]
 exact h.rok _ (List.getElem_mem hn)
section
variable {g : Nat} {v : Value} {xs r : List Int} {w0 w : World}
theorem rescaped_any (h : Now 101 g v xs r w0 w) :
    Calls Tryz.prog 69 #[.pointer (some ⟨g, 0, none⟩)] w fun e w' => e = .returned (.int .i32 (escT r).1) ∧ Now 101 g v xs (escT r).2 w0 w' := by
  have hxl := h.st.len
  have hrl := h.st.rlen
  by_cases h0 : r = []
  · subst h0
    have he : escT [] = (65533, []) := rfl
    have hn : (ah [] 0 : Int) < 0 := by decide
    rw [he]
    clear he
    go_enter Tryz.func69, Tryz.ntmps69
    go_wp2_with (first | (go_at_call 28; (with_reducible refine (sign_0 (by repeat (first | assumption | refine Now.alloc ?_ _ | refine Now.set ?_ (by simp; omega) _))).mono ?_); rintro e w1 ⟨rfl, h1⟩))
    go_ret
    exact ⟨rfl, h1⟩
  · have hl : 1 ≤ r.length := List.length_pos_iff.2 h0
    have hem : r.isEmpty = false := by simpa using h0
    have hok := (h.st.ah_ok (n := 0) (by omega)).1
    have hnn : ¬ ah r 0 < 0 := by omega
    by_cases hxx : sHexOk (ah r 0) = true
    · have HE := Lib.hid (show ∀ (n : Int) (c : Nat) (u : List Int), hx 6 0 0 r = (n, c, u) → 1 ≤ c → escT r = (meantS n, if sWhite (ah u 0) then dp 1 u else u) by
       intro n c u hh hc
       unfold escT
       rw [if_neg (by rw [hem]; simp), hh, if_neg (by show ¬ c = 0; omega)])
      have HC := Lib.hid (show ∀ (n : Int) (c : Nat) (u : List Int), hx 6 0 0 r = (n, c, u) → 1 ≤ c by
       intro n c u hh
       have := (hx_cnt 5 1 (0 * 16 + sHex (ah r 0)) (dp 1 r)).1
       rw [← hx_yes hxx, hh] at this
       exact this)
      go_enter Tryz.func69, Tryz.ntmps69
      go_wp2_with (first | (go_at_call 28; (with_reducible refine (sign_0 (by repeat (first | assumption | refine Now.alloc ?_ _ | refine Now.set ?_ (by simp; omega) _))).mono ?_); rintro e w1 ⟨rfl, h1⟩) | (go_at_call 83; refine (refhex_any _ _).mono ?_; rintro e w1 ⟨rfl, rfl⟩))
      go_loopw [6, 7, 8, 9] (fun nv iv _ _ wr => ∃ (c : Nat) (n : Int) (q : List Int), c ≤ 6 ∧ iv = .int .i64 c ∧ nv = .int .i64 n ∧ hx (6 - c) n c q = hx 6 0 0 r ∧ HxB c n ∧ Now 101 g v xs q w0 wr) (fun _ _ _ _ wr => left g xs.length wr)
      case atStart => exact ⟨0, 0, r, by omega, rfl, rfl, rfl, ⟨by omega, by decide⟩, h1⟩
      case round =>
       obtain ⟨c, n, q, hc, rfl, rfl, hq, hb, hn⟩ := hrel
       have HQ := Lib.hid hq
       have HB := Lib.hid hb
       clear hq hb h1 hxx
       have hql := hn.st.rlen
       have hn1 : 0 ≤ n := HB.out.1
       have hn3 : n < 16777216 := by
        have h2 := HB.out.2
        rcases (by omega : c = 0 ∨ c = 1 ∨ c = 2 ∨ c = 3 ∨ c = 4 ∨ c = 5 ∨ c = 6) with rfl | rfl | rfl | rfl | rfl | rfl | rfl <;> omega
       by_cases hlt : c < 6
       · have hi6 : (c : Int) < 6 := by omega
         obtain ⟨hd1, hd2⟩ := sHex_bd (ah q 0)
         by_cases hx1 : sHexOk (ah q 0) = true
         · have hlq : 1 ≤ q.length := len_of_hex hx1
           have HX := Lib.hid hx1
           go_wp2_with (first | (go_at_call 28; (with_reducible refine (sign_0 hn).mono ?_); rintro e w1 ⟨rfl, h1⟩; have c1 := h1.st.cell1; have f1 := h1.st.free1; have h2 := h1.adv1 hlq) | (first | (go_at_call 83; refine (refhex_any _ _).mono ?_; rintro e w1 ⟨rfl, rfl⟩)))
           go_roundw
           case rel =>
            refine ⟨c + 1, _, dp 1 q, by omega, by go_num, rfl, ?_, ?_, h2⟩
            · rw [← HQ.out, show 6 - c = (6 - (c + 1)) + 1 by omega, hx_yes HX.out]
            · obtain ⟨_, hb2⟩ := HB.out
              refine ⟨by omega, ?_⟩
              rw [Int.pow_succ]
              omega
           case measure => rw [h2.left, hn.left, dp_len]; omega
         · have hx3 : sHexOk (ah q 0) = false := by simpa using hx1
           have HX3 := Lib.hid hx3
           have hX := HQ.out
           rw [hx_no HX3.out] at hX
           have HEE := Lib.hid (HE.out n c q hX.symm (HC.out n c q hX.symm))
           clear hX
           by_cases hw : sWhite (ah q 0) = true
           · have hlw : 1 ≤ q.length := len_of_white hw
             have HW := Lib.hid hw
             go_wp2_with (first | (go_at_call 28; (with_reducible refine (sign_0 hn).mono ?_); rintro e w1 ⟨rfl, h1⟩) | (go_at_call 28; (with_reducible refine (sign_0 h1).mono ?_); rintro e w1 ⟨rfl, h1⟩; have c1 := h1.st.cell1; have f1 := h1.st.free1; have h2 := h1.adv1 hlw) | (first | (go_at_call 83; refine (refhex_any _ _).mono ?_; rintro e w1 ⟨rfl, rfl⟩) | (go_at_call 44; refine (refwhite_any _ _).mono ?_; rintro e w1 ⟨rfl, rfl⟩)))
             all_goals go_ret
             all_goals
               rw [HEE.out]
               rw [if_pos HW.out]
               refine ⟨ret_int ?_, by assumption⟩
               grind [meantS, wrap32]
           · have hw2 : sWhite (ah q 0) = false := by simpa using hw
             have HW := Lib.hid hw
             clear hw
             go_wp2_with (first | (go_at_call 28; (with_reducible refine (sign_0 hn).mono ?_); rintro e w1 ⟨rfl, h1⟩) | (go_at_call 28; (with_reducible refine (sign_0 h1).mono ?_); rintro e w1 ⟨rfl, h1⟩) | (first | (go_at_call 83; refine (refhex_any _ _).mono ?_; rintro e w1 ⟨rfl, rfl⟩) | (go_at_call 44; refine (refwhite_any _ _).mono ?_; rintro e w1 ⟨rfl, rfl⟩)))
             all_goals go_ret
             all_goals
               rw [HEE.out]
               rw [if_neg HW.out]
               refine ⟨ret_int ?_, by assumption⟩
               grind [meantS, wrap32]
       · have hi6 : ¬ (c : Int) < 6 := by omega
         have hX := HQ.out
         rw [show 6 - c = 0 by omega, show hx 0 n c q = (n, c, q) from rfl] at hX
         have HEE := Lib.hid (HE.out n c q hX.symm (HC.out n c q hX.symm))
         clear hX
         by_cases hw : sWhite (ah q 0) = true
         · have hlw : 1 ≤ q.length := len_of_white hw
           have HW := Lib.hid hw
           go_wp2_with (first | (go_at_call 28; (with_reducible refine (sign_0 hn).mono ?_); rintro e w1 ⟨rfl, h1⟩; have c1 := h1.st.cell1; have f1 := h1.st.free1; have h2 := h1.adv1 hlw) | (first | (go_at_call 83; refine (refhex_any _ _).mono ?_; rintro e w1 ⟨rfl, rfl⟩) | (go_at_call 44; refine (refwhite_any _ _).mono ?_; rintro e w1 ⟨rfl, rfl⟩)))
           all_goals go_ret
           all_goals
             rw [HEE.out]
             rw [if_pos HW.out]
             refine ⟨ret_int ?_, by assumption⟩
             grind [meantS, wrap32]
         · have hw2 : sWhite (ah q 0) = false := by simpa using hw
           have HW := Lib.hid hw
           clear hw
           go_wp2_with (first | (go_at_call 28; (with_reducible refine (sign_0 hn).mono ?_); rintro e w1 ⟨rfl, h1⟩) | (first | (go_at_call 83; refine (refhex_any _ _).mono ?_; rintro e w1 ⟨rfl, rfl⟩) | (go_at_call 44; refine (refwhite_any _ _).mono ?_; rintro e w1 ⟨rfl, rfl⟩)))
           all_goals go_ret
           all_goals
             rw [HEE.out]
             rw [if_neg HW.out]
             refine ⟨ret_int ?_, by assumption⟩
             grind [meantS, wrap32]
    · have hx2 : sHexOk (ah r 0) = false := by simpa using hxx
      have he : escT r = (ah r 0, dp 1 r) := by
       unfold escT
       rw [if_neg (by rw [hem]; simp), hx_no hx2, if_pos rfl]
      rw [he]
      clear he hxx
      go_enter Tryz.func69, Tryz.ntmps69
      go_wp2_with (first | (go_at_call 28; (with_reducible refine (sign_0 h).mono ?_); rintro e w1 ⟨rfl, h1⟩; have c1 := h1.st.cell1; have f1 := h1.st.free1; have h2 := h1.adv1 hl) | (first | (go_at_call 83; refine (refhex_any _ _).mono ?_; rintro e w1 ⟨rfl, rfl⟩)))
      go_ret
      exact ⟨rfl, h2⟩
end
theorem putFit (out : List Int) (x : Int) (h : out.length ≤ 100000000) : ¬ 9223372036854775807 < (runesBytes out).size + (Utf8.encode x).size := by
 have h1 := runesBytes_size_le out
 have h2 := encode_size_le x
 omega
section
variable {g : Nat} {v : Value} {xs r : List Int} {w0 w : World}
theorem rname_any (h : Now 101 g v xs r w0 w) :
    Calls Tryz.prog 49 #[.pointer (some ⟨g, 0, none⟩)] w fun e w' => e = .returned (.string (runesBytes (nm r).1)) ∧ Now 101 g v xs (nm r).2 w0 w' := by
  have hxl := h.st.len
  have hrl := h.st.rlen'
  have hnl := nm_length r.length r
  go_enter Tryz.func49, Tryz.ntmps49
  go_wp2
  go_loopw [3] (fun tv wr => ∃ out q, out ++ (nm q).1 = (nm r).1 ∧ (nm q).2 = (nm r).2 ∧ tv = .string (runesBytes out) ∧ Now 101 g v xs q w0 wr) (fun _ wr => left g xs.length wr)
  case atStart => exact ⟨[], r, rfl, rfl, rfl, h⟩
  case round =>
   obtain ⟨out, q, hq1, hq2, rfl, hn⟩ := hrel
   have hol : out.length ≤ 100000000 := by
    have := congrArg List.length hq1
    rw [List.length_append] at this
    unfold nm at this
    omega
   have HQ1 := Lib.hid hq1
   have HQ2 := Lib.hid hq2
   clear hq1 hq2 h
   have hql := hn.st.rlen
   by_cases c1 : sName (ah q 0) = true
   · have hlq : 1 ≤ q.length := len_of_name c1
     have C1 := Lib.hid c1
     have z1 := putFit out (ah q 0) hol
     go_wp2_with (first | (go_at_call 28; (with_reducible refine (sign_0 hn).mono ?_); rintro e w1 ⟨rfl, h1⟩) | (go_at_call 28; (with_reducible refine (sign_0 h1).mono ?_); rintro e w1 ⟨rfl, h1⟩) | (first | (go_at_call 46; refine (refname_any _ _).mono ?_; rintro e w1 ⟨rfl, rfl⟩)) | (go_at_call 43; (with_reducible refine (refput_any _ _).mono ?_); rintro e w2 ⟨rfl, hb2⟩; have h2 := h1.below hb2; have c1 := h2.st.cell1; have f1 := h2.st.free1; have h3 := h2.adv1 hlq))
     go_roundw
     case rel => exact ⟨out ++ [ah q 0], dp 1 q, by rw [← HQ1.out, nm_name C1.out, List.append_assoc]; rfl, by rw [← HQ2.out, nm_name C1.out], by rw [runesBytes_snoc], h3⟩
     case measure => rw [h3.left, hn.left, dp_len]; omega
   · have c2 : sName (ah q 0) = false := by simpa using c1
     clear c1
     have C1 := Lib.hid c2
     by_cases c3 : esc q 0 = true
     · have hlq : 1 ≤ q.length := len_of_esc c3
       have hel := escT_len (dp 1 q)
       rw [dp_len] at hel
       have C3 := Lib.hid c3
       have z1 := putFit out (escT (dp 1 q)).1 hol
       go_wp2_with (first | (go_at_call 28; (with_reducible refine (sign_0 hn).mono ?_); rintro e w1 ⟨rfl, h1⟩) | (first | (go_at_call 46; refine (refname_any _ _).mono ?_; rintro e w1 ⟨rfl, rfl⟩)) | (go_at_call 47; (with_reducible refine (resc_0 h1).mono ?_); rintro e w1 ⟨rfl, h1⟩; have c1 := h1.st.cell1; have f1 := h1.st.free1; have h2 := h1.adv1 hlq) | (go_at_call 69; (with_reducible refine (rescaped_any h2).mono ?_); rintro e w1 ⟨rfl, h3⟩) | (go_at_call 43; (with_reducible refine (refput_any _ _).mono ?_); rintro e w2 ⟨rfl, hb2⟩; have h4 := h3.below hb2))
       go_roundw
       case rel => exact ⟨out ++ [(escT (dp 1 q)).1], (escT (dp 1 q)).2, by rw [← HQ1.out, nm_esc C1.out C3.out, List.append_assoc]; rfl, by rw [← HQ2.out, nm_esc C1.out C3.out], by rw [runesBytes_snoc], h4⟩
       case measure => rw [h4.left, hn.left]; omega
     · have c4 : esc q 0 = false := by simpa using c3
       clear c3
       have C4 := Lib.hid c4
       go_wp2_with (first | (go_at_call 28; (with_reducible refine (sign_0 hn).mono ?_); rintro e w1 ⟨rfl, h1⟩) | (first | (go_at_call 46; refine (refname_any _ _).mono ?_; rintro e w1 ⟨rfl, rfl⟩)) | (go_at_call 47; (with_reducible refine (resc_0 h1).mono ?_); rintro e w1 ⟨rfl, h1⟩))
       go_ret
       have e1 : (nm r).1 = out := by rw [← HQ1.out, nm_else C1.out C4.out]; simp
       have e2 : (nm r).2 = q := by rw [← HQ2.out, nm_else C1.out C4.out]
       rw [e1, e2]
       exact ⟨rfl, h1⟩
def dgs (r : List Int) : List Int := r.takeWhile sDigit
theorem dgs_yes {r : List Int} (h : sDigit (ah r 0) = true) : dgs r = ah r 0 :: dgs (dp 1 r) := by
 cases r with
 | nil => exact absurd h (by decide)
 | cons a t => simp at h; simp [dgs, dp, h]
theorem dgs_no {r : List Int} (h : sDigit (ah r 0) = false) : dgs r = [] := by
 cases r with
 | nil => rfl
 | cons a t => simp at h; simp [dgs, h]
theorem dgs_len (r : List Int) : (dgs r).length ≤ r.length := (List.takeWhile_sublist _).length_le
theorem rdigits_any (h : Now 101 g v xs r w0 w) :
    Calls Tryz.prog 71 #[.pointer (some ⟨g, 0, none⟩)] w fun e w' => e = .returned (.string (runesBytes (dgs r))) ∧ Now 101 g v xs (cnt r) w0 w' := by
  have hxl := h.st.len
  have hrl := h.st.rlen'
  have hdl := dgs_len r
  go_enter Tryz.func71, Tryz.ntmps71
  go_wp2
  go_loopw [3] (fun tv wr => ∃ out q, out ++ dgs q = dgs r ∧ cnt q = cnt r ∧ tv = .string (runesBytes out) ∧ Now 101 g v xs q w0 wr) (fun _ wr => left g xs.length wr)
  case atStart => exact ⟨[], r, rfl, rfl, rfl, h⟩
  case round =>
   obtain ⟨out, q, hq1, hq2, rfl, hn⟩ := hrel
   have hol : out.length ≤ 100000000 := by
    have := congrArg List.length hq1
    rw [List.length_append] at this
    omega
   have HQ1 := Lib.hid hq1
   have HQ2 := Lib.hid hq2
   clear hq1 hq2 h
   have hql := hn.st.rlen
   by_cases c1 : sDigit (ah q 0) = true
   · have hlq : 1 ≤ q.length := len_of_digit c1
     have C1 := Lib.hid c1
     have z1 := putFit out (ah q 0) hol
     go_wp2_with (first | (go_at_call 28; (with_reducible refine (sign_0 hn).mono ?_); rintro e w1 ⟨rfl, h1⟩) | (go_at_call 28; (with_reducible refine (sign_0 h1).mono ?_); rintro e w1 ⟨rfl, h1⟩) | (first | (go_at_call 50; refine (refdigit_any _ _).mono ?_; rintro e w1 ⟨rfl, rfl⟩)) | (go_at_call 43; (with_reducible refine (refput_any _ _).mono ?_); rintro e w2 ⟨rfl, hb2⟩; have h2 := h1.below hb2; have c1 := h2.st.cell1; have f1 := h2.st.free1; have h3 := h2.adv1 hlq))
     go_roundw
     case rel => exact ⟨out ++ [ah q 0], dp 1 q, by rw [← HQ1.out, dgs_yes C1.out, List.append_assoc]; rfl, by rw [← HQ2.out, cnt_yes C1.out], by rw [runesBytes_snoc], h3⟩
     case measure => rw [h3.left, hn.left, dp_len]; omega
   · have c2 : sDigit (ah q 0) = false := by simpa using c1
     clear c1
     have C1 := Lib.hid c2
     go_wp2_with (first | (go_at_call 28; (with_reducible refine (sign_0 hn).mono ?_); rintro e w1 ⟨rfl, h1⟩) | (first | (go_at_call 50; refine (refdigit_any _ _).mono ?_; rintro e w1 ⟨rfl, rfl⟩)))
     go_ret
     have e1 : dgs r = out := by rw [← HQ1.out, dgs_no C1.out]; simp
     have e2 : cnt r = q := by rw [← HQ2.out, cnt_no C1.out]
     rw [e1, e2]
     exact ⟨rfl, h1⟩
end
end Go.Proofs.YtclicjiakkcfcaaGreatDoor
