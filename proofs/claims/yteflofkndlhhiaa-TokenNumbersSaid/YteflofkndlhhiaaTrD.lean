
import Derived.Test.YteflofkndlhhiaaTrC
namespace Go.Proofs.Yteflofkndlhhiaa
open Go.RowKit
section
variable {g : Nat} {v : Value} {xs r : List Int} {w0 w : World}
set_option maxRecDepth 100000 in
set_option maxHeartbeats 1600000 in
theorem rbad_any (h : Now 64 g v xs r w0 w) :
    Calls Try.prog 97 #[.pointer (some ⟨g, 0, none⟩)] w fun e w' => e = .returned (Tok.val { kind := 8 }) ∧ Now 64 g v xs (badT r) w0 w' := by
  have hA := (h.alloc zeroT).st.now
  have hgo := h.st.lt
  have hxl := h.st.len
  go_enter Try.func97, Try.ntmps97
  go_wp2
  go_loopw [] (fun wr => ∃ q, badT q = badT r ∧ Now 64 g v xs q (w.alloc zeroT) wr) (fun wr => left g xs.length wr)
  case atStart => exact ⟨r, rfl, hA⟩
  case round =>
    obtain ⟨q, hq, hn⟩ := hrel
    clear hA
    have HQ := Lib.hid hq
    clear hq
    have hql := hn.st.rlen
    by_cases c1 : q.isEmpty = true
    · have hX : badT r = [] := by rw [← HQ.out]; unfold badT; rw [dif_pos c1]
      have HX := Lib.hid hX
      obtain rfl : q = [] := by simpa using c1
      have ha : (ah [] 0 : Int) < 0 := by decide
      have ha2 : (ah [] 0 == 41) = false := by decide
      clear hX c1
      go_wp2_with (first | (go_at_call 39; (with_reducible refine (sign_0 hn).mono ?_); rintro e w1 ⟨rfl, h1⟩) | (go_at_call 39; (with_reducible refine (sign_0 h1).mono ?_); rintro e w1 ⟨rfl, h1⟩; have hc := h1.res hgo))
      refine bodyPost_ret (v := Tok.val { kind := 8 }) ?_ rfl ⟨rfl, by rw [HX.out]; exact h1.wrote h _ _ _ _ _ _⟩
      simp [results, Try.results97, go_sem, hc, Tok.val]
    · have hlq : 1 ≤ q.length := ne_len c1
      have hdl := dp_lt c1
      have hok := (hn.st.ah_ok (n := 0) (by omega)).1
      by_cases c2 : ah q 0 = 41
      · have HX := Lib.hid (show badT r = dp 1 q by rw [← HQ.out]; unfold badT; rw [dif_neg c1, if_pos c2])
        have b1 : (ah q 0 == 41) = true := by simp [c2]
        have b2 : (ah q 0 != 41) = false := by simp [c2]
        clear c2 c1
        go_wp2_with (first | (go_at_call 39; (with_reducible refine (sign_0 hn).mono ?_); rintro e w1 ⟨rfl, h1⟩) | (go_at_call 39; (with_reducible refine (sign_0 h1).mono ?_); rintro e w1 ⟨rfl, h1⟩; have hc := (h1.adv1 hlq).res hgo; have k1 := h1.st.cell1; have k2 := h1.st.free1))
        refine bodyPost_ret (v := Tok.val { kind := 8 }) ?_ rfl ⟨rfl, by rw [HX.out]; exact (h1.adv1 hlq).wrote h _ _ _ _ _ _⟩
        simp [results, Try.results97, go_sem, hc, Tok.val]
      · have b1 : (ah q 0 != 41) = true := by simp [c2]
        by_cases c3 : esc q 0 = true
        · have HX := Lib.hid (show badT (escT (dp 1 q)).2 = badT r by rw [← HQ.out]; conv => rhs; unfold badT
                                                                      rw [dif_neg c1, if_neg c2, if_pos c3])
          have hll := escT_lt c1
          clear c2 c1
          go_wp2_with (first | (go_at_call 39; (with_reducible refine (sign_0 hn).mono ?_); rintro e w1 ⟨rfl, h1⟩) | (go_at_call 39; (with_reducible refine (sign_0 h1).mono ?_); rintro e w1 ⟨rfl, h1⟩) | (go_at_call 64; (with_reducible refine (resc_0 h1).mono ?_); rintro e w1 ⟨rfl, h1⟩; have k1 := h1.st.cell1; have k2 := h1.st.free1; have h2 := h1.adv1 hlq) | (go_at_call 86; (with_reducible refine (rescaped_any h2).mono ?_); rintro e w1 ⟨rfl, h3⟩))
          go_roundw
          case rel => exact ⟨_, HX.out, h3⟩
          case measure => rw [h3.left, hn.left]; omega
        · have HX := Lib.hid (show badT (dp 1 q) = badT r by rw [← HQ.out]; conv => rhs; unfold badT
                                                             rw [dif_neg c1, if_neg c2, if_neg c3])
          have b3 : esc q 0 = false := by simpa using c3
          clear c2 c1 c3
          go_wp2_with (first | (go_at_call 39; (with_reducible refine (sign_0 hn).mono ?_); rintro e w1 ⟨rfl, h1⟩) | (go_at_call 39; (with_reducible refine (sign_0 h1).mono ?_); rintro e w1 ⟨rfl, h1⟩) | (go_at_call 64; (with_reducible refine (resc_0 h1).mono ?_); rintro e w1 ⟨rfl, h1⟩; have k1 := h1.st.cell1; have k2 := h1.st.free1; have h2 := h1.adv1 hlq))
          go_roundw
          case rel => exact ⟨_, HX.out, h2⟩
          case measure => rw [h2.left, hn.left]; omega
end
end Go.Proofs.Yteflofkndlhhiaa
