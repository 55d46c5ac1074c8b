
import Derived.Test.YteflofkndlhhiaaTrB
namespace Go.Proofs.Yteflofkndlhhiaa
open Go.RowKit
theorem putFit (out : List Int) (x : Int) (h : out.length ≤ 100000000) : ¬ 9223372036854775807 < (runesBytes out).size + (Utf8.encode x).size := by
  have h1 := runesBytes_size_le out
  have h2 := encode_size_le x
  omega
section
variable {g : Nat} {v : Value} {xs r : List Int} {w0 w : World}
set_option maxRecDepth 100000 in
set_option maxHeartbeats 1600000 in
theorem rname_any (h : Now 64 g v xs r w0 w) :
    Calls Try.prog 66 #[.pointer (some ⟨g, 0, none⟩)] w fun e w' => e = .returned (.string (runesBytes (nm r).1)) ∧ Now 64 g v xs (nm r).2 w0 w' := by
  have hxl := h.st.len
  have hrl := h.st.rlen'
  have hnl := nm_length r.length r
  go_enter Try.func66, Try.ntmps66
  go_wp2
  go_loopw [3] (fun tv wr => ∃ out q, out ++ (nm q).1 = (nm r).1 ∧ (nm q).2 = (nm r).2 ∧ tv = .string (runesBytes out) ∧ Now 64 g v xs q w0 wr) (fun _ wr => left g xs.length wr)
  case atStart => exact ⟨[], r, rfl, rfl, rfl, h⟩
  case round =>
    obtain ⟨out, q, hq1, hq2, rfl, hn⟩ := hrel
    have hol : out.length ≤ 100000000 := by
      have := congrArg List.length hq1
      rw [List.length_append] at this
      unfold nm at this
      omega
    have HQ1 := Lib.hid hq1
    have HQ2 := Lib.hid hq2
    clear hq1 hq2 h
    have hql := hn.st.rlen
    by_cases c1 : sName (ah q 0) = true
    · have hlq : 1 ≤ q.length := len_of_name c1
      have C1 := Lib.hid c1
      have z1 := putFit out (ah q 0) hol
      go_wp2_with (first | (go_at_call 39; (with_reducible refine (sign_0 hn).mono ?_); rintro e w1 ⟨rfl, h1⟩) | (go_at_call 39; (with_reducible refine (sign_0 h1).mono ?_); rintro e w1 ⟨rfl, h1⟩) | (first | (go_at_call 63; refine (refname_any _ _).mono ?_; rintro e w1 ⟨rfl, rfl⟩)) | (go_at_call 22; (with_reducible refine (refput_any _ _).mono ?_); rintro e w2 ⟨rfl, hb2⟩; have h2 := h1.below hb2; have c1 := h2.st.cell1; have f1 := h2.st.free1; have h3 := h2.adv1 hlq))
      go_roundw
      case rel => exact ⟨out ++ [ah q 0], dp 1 q, by rw [← HQ1.out, nm_name C1.out, List.append_assoc]; rfl, by rw [← HQ2.out, nm_name C1.out], by rw [runesBytes_snoc], h3⟩
      case measure => rw [h3.left, hn.left, dp_len]; omega
    · have c2 : sName (ah q 0) = false := by simpa using c1
      clear c1
      have C1 := Lib.hid c2
      by_cases c3 : esc q 0 = true
      · have hlq : 1 ≤ q.length := len_of_esc c3
        have hel := escT_len (dp 1 q)
        rw [dp_len] at hel
        have C3 := Lib.hid c3
        have z1 := putFit out (escT (dp 1 q)).1 hol
        go_wp2_with (first | (go_at_call 39; (with_reducible refine (sign_0 hn).mono ?_); rintro e w1 ⟨rfl, h1⟩) | (first | (go_at_call 63; refine (refname_any _ _).mono ?_; rintro e w1 ⟨rfl, rfl⟩)) | (go_at_call 64; (with_reducible refine (resc_0 h1).mono ?_); rintro e w1 ⟨rfl, h1⟩; have c1 := h1.st.cell1; have f1 := h1.st.free1; have h2 := h1.adv1 hlq) | (go_at_call 86; (with_reducible refine (rescaped_any h2).mono ?_); rintro e w1 ⟨rfl, h3⟩) | (go_at_call 22; (with_reducible refine (refput_any _ _).mono ?_); rintro e w2 ⟨rfl, hb2⟩; have h4 := h3.below hb2))
        go_roundw
        case rel => exact ⟨out ++ [(escT (dp 1 q)).1], (escT (dp 1 q)).2, by rw [← HQ1.out, nm_esc C1.out C3.out, List.append_assoc]; rfl, by rw [← HQ2.out, nm_esc C1.out C3.out], by rw [runesBytes_snoc], h4⟩
        case measure => rw [h4.left, hn.left]; omega
      · have c4 : esc q 0 = false := by simpa using c3
        clear c3
        have C4 := Lib.hid c4
        go_wp2_with (first | (go_at_call 39; (with_reducible refine (sign_0 hn).mono ?_); rintro e w1 ⟨rfl, h1⟩) | (first | (go_at_call 63; refine (refname_any _ _).mono ?_; rintro e w1 ⟨rfl, rfl⟩)) | (go_at_call 64; (with_reducible refine (resc_0 h1).mono ?_); rintro e w1 ⟨rfl, h1⟩))
        go_ret
        have e1 : (nm r).1 = out := by rw [← HQ1.out, nm_else C1.out C4.out]; simp
        have e2 : (nm r).2 = q := by rw [← HQ2.out, nm_else C1.out C4.out]
        rw [e1, e2]
        exact ⟨rfl, h1⟩
/-- The digits at the place. -/
def dgs (r : List Int) : List Int := r.takeWhile sDigit
theorem dgs_yes {r : List Int} (h : sDigit (ah r 0) = true) : dgs r = ah r 0 :: dgs (dp 1 r) := by
  cases r with
  | nil => exact absurd h (by decide)
  | cons a t => simp at h; simp [dgs, dp, h]
theorem dgs_no {r : List Int} (h : sDigit (ah r 0) = false) : dgs r = [] := by
  cases r with
  | nil => rfl
  | cons a t => simp at h; simp [dgs, h]
theorem dgs_len (r : List Int) : (dgs r).length ≤ r.length := (List.takeWhile_sublist _).length_le
set_option maxRecDepth 100000 in
set_option maxHeartbeats 1600000 in
theorem rdigits_any (h : Now 64 g v xs r w0 w) :
    Calls Try.prog 88 #[.pointer (some ⟨g, 0, none⟩)] w fun e w' => e = .returned (.string (runesBytes (dgs r))) ∧ Now 64 g v xs (cnt r) w0 w' := by
  have hxl := h.st.len
  have hrl := h.st.rlen'
  have hdl := dgs_len r
  go_enter Try.func88, Try.ntmps88
  go_wp2
  go_loopw [3] (fun tv wr => ∃ out q, out ++ dgs q = dgs r ∧ cnt q = cnt r ∧ tv = .string (runesBytes out) ∧ Now 64 g v xs q w0 wr) (fun _ wr => left g xs.length wr)
  case atStart => exact ⟨[], r, rfl, rfl, rfl, h⟩
  case round =>
    obtain ⟨out, q, hq1, hq2, rfl, hn⟩ := hrel
    have hol : out.length ≤ 100000000 := by
      have := congrArg List.length hq1
      rw [List.length_append] at this
      omega
    have HQ1 := Lib.hid hq1
    have HQ2 := Lib.hid hq2
    clear hq1 hq2 h
    have hql := hn.st.rlen
    by_cases c1 : sDigit (ah q 0) = true
    · have hlq : 1 ≤ q.length := len_of_digit c1
      have C1 := Lib.hid c1
      have z1 := putFit out (ah q 0) hol
      go_wp2_with (first | (go_at_call 39; (with_reducible refine (sign_0 hn).mono ?_); rintro e w1 ⟨rfl, h1⟩) | (go_at_call 39; (with_reducible refine (sign_0 h1).mono ?_); rintro e w1 ⟨rfl, h1⟩) | (first | (go_at_call 67; refine (refdigit_any _ _).mono ?_; rintro e w1 ⟨rfl, rfl⟩)) | (go_at_call 22; (with_reducible refine (refput_any _ _).mono ?_); rintro e w2 ⟨rfl, hb2⟩; have h2 := h1.below hb2; have c1 := h2.st.cell1; have f1 := h2.st.free1; have h3 := h2.adv1 hlq))
      go_roundw
      case rel => exact ⟨out ++ [ah q 0], dp 1 q, by rw [← HQ1.out, dgs_yes C1.out, List.append_assoc]; rfl, by rw [← HQ2.out, cnt_yes C1.out], by rw [runesBytes_snoc], h3⟩
      case measure => rw [h3.left, hn.left, dp_len]; omega
    · have c2 : sDigit (ah q 0) = false := by simpa using c1
      clear c1
      have C1 := Lib.hid c2
      go_wp2_with (first | (go_at_call 39; (with_reducible refine (sign_0 hn).mono ?_); rintro e w1 ⟨rfl, h1⟩) | (first | (go_at_call 67; refine (refdigit_any _ _).mono ?_; rintro e w1 ⟨rfl, rfl⟩)))
      go_ret
      have e1 : dgs r = out := by rw [← HQ1.out, dgs_no C1.out]; simp
      have e2 : cnt r = q := by rw [← HQ2.out, cnt_no C1.out]
      rw [e1, e2]
      exact ⟨rfl, h1⟩
end
end Go.Proofs.Yteflofkndlhhiaa
