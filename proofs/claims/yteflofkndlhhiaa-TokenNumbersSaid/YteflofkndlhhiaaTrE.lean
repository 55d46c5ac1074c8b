
import Derived.Test.YteflofkndlhhiaaTrD
namespace Go.Proofs.Yteflofkndlhhiaa
open Go.RowKit
theorem Now.adv2 {T : TypeId} {g : Nat} {v : Value} {xs r : List Int} {w0 w : World} (h : Now T g v xs r w0 w) (hl : 2 ≤ r.length) : Now T g v xs (dp 2 r) w0 (w.setCell ⟨g, 1, none⟩ (.int .i64 (((xs.length - r.length : Nat) : Int) + 2))) := by
  have h1 := h.st.rlen
  have h2 := dp_len 2 r
  exact h.go ((dp_suf 2 r).trans h.st.suf) (by congr 1; omega)
section
variable {g : Nat} {v : Value} {xs r : List Int} {w0 w : World}
set_option maxRecDepth 100000 in
set_option maxRecDepth 100000 in
set_option maxHeartbeats 3200000 in
theorem rquoted_any (h : Now 64 g v xs r w0 w) (Q : Int) :
    Calls Try.prog 62 #[.pointer (some ⟨g, 0, none⟩), .int .i32 Q] w fun e w' => e = .returned (tokQ 5 6 (qt Q r)).val ∧ Now 64 g v xs (qt Q r).2.2 w0 w' := by
  have hA := (h.alloc zeroT).st.now
  have hgo := h.st.lt
  have hrl := h.st.rlen'
  have hxl := h.st.len
  have hinv : TxtInv (qt Q) (qt Q r) r.length [] r := ⟨rfl, rfl, rfl, by simp⟩
  go_enter Try.func62, Try.ntmps62
  go_wp2
  go_loopw [5, 6] (fun tv _ wr => ∃ out q, TxtInv (qt Q) (qt Q r) r.length out q ∧ tv = .string (runesBytes out) ∧ Now 64 g v xs q (w.alloc zeroT) wr) (fun _ _ wr => left g xs.length wr)
  case atStart => exact ⟨[], r, hinv, rfl, hA⟩
  case round =>
    obtain ⟨out, q, hI, rfl, hn⟩ := hrel
    clear hA hinv
    have hol : out.length ≤ 100000000 := by have := hI.len; omega
    have hql := hn.st.rlen
    by_cases c0 : q.isEmpty = true
    · have HX := Lib.hid (hI.good (q' := []) (by unfold qt; rw [dif_pos c0]))
      obtain rfl : q = [] := by simpa using c0
      have ha : (ah [] 0 : Int) < 0 := by decide
      clear c0 hI
      go_wp2_with (go_at_call 39; (with_reducible refine (sign_0 hn).mono ?_); rintro e w1 ⟨rfl, h1⟩; have hc := h1.res hgo)
      refine bodyPost_ret (v := Tok.val (tokQ 5 6 (true, out, []))) ?_ rfl ⟨by rw [HX.out], by rw [HX.out]; exact h1.wrote h _ _ _ _ _ _⟩
      simp [results, Try.results62, go_sem, hc, Tok.val, tokQ]
    · have hlq : 1 ≤ q.length := ne_len c0
      have hok := (hn.st.ah_ok (n := 0) (by omega)).1
      have hnn : ¬ ah q 0 < 0 := by omega
      by_cases c1 : ah q 0 = Q
      · have HX := Lib.hid (hI.good (q' := dp 1 q) (by unfold qt; rw [dif_neg c0, if_pos c1]))
        have b1 : (ah q 0 == Q) = true := by simp [c1]
        clear c0 c1 hI
        go_wp2_with (go_at_call 39; (with_reducible refine (sign_0 hn).mono ?_); rintro e w1 ⟨rfl, h1⟩; have k1 := h1.st.cell1; have k2 := h1.st.free1; have h2 := h1.adv1 hlq; have hc := h2.res hgo)
        refine bodyPost_ret (v := Tok.val (tokQ 5 6 (true, out, dp 1 q))) ?_ rfl ⟨by rw [HX.out], by rw [HX.out]; exact h2.wrote h _ _ _ _ _ _⟩
        simp [results, Try.results62, go_sem, hc, Tok.val, tokQ]
      · have b1 : (ah q 0 == Q) = false := by simp [c1]
        by_cases c2 : ah q 0 = 10
        · have HX := Lib.hid (hI.ill (q' := q) (by unfold qt; rw [dif_neg c0, if_neg c1, if_pos c2]))
          have b2 : (ah q 0 == 10) = true := by simp [c2]
          clear c0 c1 hI c2
          go_wp2_with (go_at_call 39; (with_reducible refine (sign_0 hn).mono ?_); rintro e w1 ⟨rfl, h1⟩; have hc := h1.res hgo)
          refine bodyPost_ret (v := Tok.val (tokQ 5 6 (false, out, q))) ?_ rfl ⟨by rw [HX.out], by rw [HX.out]; exact h1.wrote h _ _ _ _ _ _⟩
          simp [results, Try.results62, go_sem, hc, Tok.val, tokQ]
        · have b2 : (ah q 0 == 10) = false := by simp [c2]
          by_cases c3 : ah q 0 ≠ 92
          · have HI := Lib.hid (hI.push (x := ah q 0) (q' := dp 1 q) (by conv => lhs; unfold qt
                                                                         rw [dif_neg c0, if_neg c1, if_neg c2, if_pos c3]) (dp_lt c0))
            have b3 : (ah q 0 == 92) = false := by simpa using c3
            have z1 := putFit out (ah q 0) hol
            clear c0 c1 c2 c3 hI
            go_wp2_with (first | (go_at_call 39; (with_reducible refine (sign_0 hn).mono ?_); rintro e w1 ⟨rfl, h1⟩) | (go_at_call 22; (with_reducible refine (refput_any _ _).mono ?_); rintro e w2 ⟨rfl, hb2⟩; have h3 := h1.below hb2; have k1 := h3.st.cell1; have k2 := h3.st.free1; have h2 := h3.adv1 hlq))
            go_roundw
            case rel => exact ⟨_, _, HI.out, by rw [runesBytes_snoc], h2⟩
            case measure => rw [h2.left, hn.left, dp_len]; omega
          · have b3 : (ah q 0 == 92) = true := by simpa using c3
            by_cases c4 : q.length ≤ 1
            · have HI := Lib.hid (hI.same (q' := dp 1 q) (by
                have he : (dp 1 q).isEmpty = true := by
                  have : (dp 1 q).length = 0 := by rw [dp_len]; omega
                  simpa using this
                unfold qt
                rw [dif_neg c0, if_neg c1, if_neg c2, if_neg c3, if_pos c4, dif_pos he]) (by rw [dp_len]; omega))
              have a1 : ah q 1 = -1 := ah_end c4
              have b4 : ah q 1 < 0 := by omega
              clear c0 c1 c2 c3 hI a1
              go_wp2_with (first | (go_at_call 39; (with_reducible refine (sign_0 hn).mono ?_); rintro e w1 ⟨rfl, h1⟩) | (go_at_call 39; (with_reducible refine (sign_1 h1).mono ?_); rintro e w1 ⟨rfl, h1⟩; have k1 := h1.st.cell1; have k2 := h1.st.free1; have h2 := h1.adv1 hlq))
              go_roundw
              case rel => exact ⟨_, _, HI.out, rfl, h2⟩
              case measure => rw [h2.left, hn.left, dp_len]; omega
            · have hok1 := (hn.st.ah_ok (n := 1) (by omega)).1
              have hn1 : ¬ ah q 1 < 0 := by omega
              by_cases c5 : esc q 0 = true
              · have HI := Lib.hid (hI.push (x := (escT (dp 1 q)).1) (q' := (escT (dp 1 q)).2) (by
                  conv => lhs; unfold qt
                  rw [dif_neg c0, if_neg c1, if_neg c2, if_neg c3, if_neg c4, if_pos c5]) (escT_lt c0))
                have hll := escT_lt c0
                have b5 : (ah q 1 == 10) = false := by unfold esc at c5; simp at c5; simp [c5.2]
                have z1 := putFit out (escT (dp 1 q)).1 hol
                clear c0 c1 c2 c3 hI c5
                go_wp2_with (first | (go_at_call 39; (with_reducible refine (sign_0 hn).mono ?_); rintro e w1 ⟨rfl, h1⟩) | (go_at_call 39; (with_reducible refine (sign_1 h1).mono ?_); rintro e w1 ⟨rfl, h1⟩; have k1 := h1.st.cell1; have k2 := h1.st.free1; have h2 := h1.adv1 hlq) | (go_at_call 86; (with_reducible refine (rescaped_any h2).mono ?_); rintro e w1 ⟨rfl, h3⟩) | (go_at_call 22; (with_reducible refine (refput_any _ _).mono ?_); rintro e w2 ⟨rfl, hb2⟩; have h4 := h3.below hb2))
                go_roundw
                case rel => exact ⟨_, _, HI.out, by rw [runesBytes_snoc], h4⟩
                case measure => rw [h4.left, hn.left]; omega
              · have HI := Lib.hid (hI.same (q' := dp 2 q) (by
                  conv => lhs; unfold qt
                  rw [dif_neg c0, if_neg c1, if_neg c2, if_neg c3, if_neg c4, if_neg c5]) (by rw [dp_len]; omega))
                have b5 : (ah q 1 == 10) = true := by
                  have h92 : ah q 0 = 92 := by simpa using c3
                  unfold esc at c5
                  simpa [h92] using c5
                have hl2 : 2 ≤ q.length := by omega
                clear c0 c1 c2 c3 hI c5
                go_wp2_with (first | (go_at_call 39; (with_reducible refine (sign_0 hn).mono ?_); rintro e w1 ⟨rfl, h1⟩) | (go_at_call 39; (with_reducible refine (sign_1 h1).mono ?_); rintro e w1 ⟨rfl, h1⟩; have k1 := h1.st.cell1; have k2 := h1.st.free1; have h2 := h1.adv2 hl2))
                go_roundw
                case rel => exact ⟨_, _, HI.out, rfl, h2⟩
                case measure => rw [h2.left, hn.left, dp_len]; omega
end
end Go.Proofs.Yteflofkndlhhiaa
