
import Derived.Test.YtfpgkfpehkelcaaTkH
namespace Go.Proofs.Ytfpgkfpehkelcaa
open Go.RowKit
section
variable {g : Nat} {v : Value} {xs r : List Int} {w0 w : World}
set_option maxRecDepth 100000 in
set_option maxHeartbeats 800000 in
theorem atWord_any (h : Now 57 g v xs r w0 w) (hl : 1 ≤ r.length) :
    Calls Try.prog 46 #[.pointer (some ⟨g, 0, none⟩)] w fun e w' => e = .returned (atT r).1.val ∧ Now 57 g v xs (atT r).2 w0 w' := by
  have hA := (h.alloc zeroT).st.now
  have hgo := h.st.lt
  by_cases hb : nbg r 1 = true
  · have e : atT r = ({ kind := 3, text := runesBytes (nm (dp 1 r)).1 }, (nm (dp 1 r)).2) := by unfold atT; rw [if_pos hb]
    rw [e]
    clear e
    go_enter Try.func46, Try.ntmps46
    go_wp2_with (first | (go_at_call 49; (with_reducible refine (nbg_1 (by first | assumption | exact hA)).mono ?_); rintro e w1 ⟨rfl, h1⟩) | (go_at_call 65; (with_reducible refine (take_any (by first | assumption | exact hA) hl).mono ?_); rintro e w1 ⟨rfl, h1⟩) | (go_at_call 69; (with_reducible refine (nameW_any (by first | assumption | exact hA)).mono ?_); rintro e w1 ⟨rfl, h1⟩; have hc := h1.res hgo))
    refine bodyPost_ret (v := Tok.val { kind := 3, text := runesBytes (nm (dp 1 r)).1 }) ?_ rfl ⟨rfl, h1.wrote h _ _ _ _ _ _⟩
    simp [results, Try.results46, go_sem, hc, Tok.val]
  · have e : atT r = (markT (ah r 0), dp 1 r) := by unfold atT; rw [if_neg hb]
    have hb2 : nbg r 1 = false := by simpa using hb
    clear hb
    rw [e]
    clear e
    go_enter Try.func46, Try.ntmps46
    go_wp2_with (first | (go_at_call 49; (with_reducible refine (nbg_1 (by first | assumption | exact hA)).mono ?_); rintro e w1 ⟨rfl, h1⟩) | (go_at_call 51; (with_reducible refine (mark_any (by first | assumption | exact hA) hl).mono ?_); rintro e w1 ⟨rfl, h1⟩; have hc := h1.res hgo; simp only [Tok.val]))
    refine bodyPost_ret (v := (markT (ah r 0)).val) ?_ rfl ⟨rfl, h1.wrote h _ _ _ _ _ _⟩
    simp [results, Try.results46, go_sem, hc, Tok.val]
set_option maxRecDepth 100000 in
set_option maxHeartbeats 800000 in
theorem hash_any (h : Now 57 g v xs r w0 w) (hl : 1 ≤ r.length) :
    Calls Try.prog 45 #[.pointer (some ⟨g, 0, none⟩)] w fun e w' => e = .returned (hashT r).1.val ∧ Now 57 g v xs (hashT r).2 w0 w' := by
  have hA := (h.alloc zeroT).st.now
  have hgo := h.st.lt
  by_cases hb : (sName (ah r 1) || esc r 1) = true
  · have e : hashT r = ({ kind := 4, text := runesBytes (nm (dp 1 r)).1, id := nbg (dp 1 r) 0 }, (nm (dp 1 r)).2) := by unfold hashT; rw [if_pos hb]
    rw [e]
    clear e
    by_cases hb1 : sName (ah r 1) = true
    · clear hb
      go_enter Try.func45, Try.ntmps45
      go_wp2_with (first | (go_at_call 41; (with_reducible refine (ahead_1 (by first | assumption | exact hA)).mono ?_); rintro e w1 ⟨rfl, h1⟩) | (go_at_call 68; (with_reducible refine (name_any _ _).mono ?_); rintro e w1 ⟨rfl, rfl⟩) | (go_at_call 66; (with_reducible refine (escapes_1 (by first | assumption | exact hA)).mono ?_); rintro e w1 ⟨rfl, h1⟩) | (go_at_call 65; (with_reducible refine (take_any (by first | assumption | exact hA) hl).mono ?_); rintro e w1 ⟨rfl, h1⟩) | (go_at_call 49; (with_reducible refine (nbg_0 (by first | assumption | exact hA)).mono ?_); rintro e w1 ⟨rfl, h1⟩) | (go_at_call 69; (with_reducible refine (nameW_any (by first | assumption | exact hA)).mono ?_); rintro e w1 ⟨rfl, h1⟩; have hc := h1.res hgo))
      refine bodyPost_ret (v := Tok.val { kind := 4, text := runesBytes (nm (dp 1 r)).1, id := nbg (dp 1 r) 0 }) ?_ rfl ⟨rfl, h1.wrote h _ _ _ _ _ _⟩
      simp [results, Try.results45, go_sem, hc, Tok.val]
    · have hb2 : sName (ah r 1) = false := by simpa using hb1
      have hb3 : esc r 1 = true := by simpa [hb2] using hb
      clear hb hb1
      go_enter Try.func45, Try.ntmps45
      go_wp2_with (first | (go_at_call 41; (with_reducible refine (ahead_1 (by first | assumption | exact hA)).mono ?_); rintro e w1 ⟨rfl, h1⟩) | (go_at_call 68; (with_reducible refine (name_any _ _).mono ?_); rintro e w1 ⟨rfl, rfl⟩) | (go_at_call 66; (with_reducible refine (escapes_1 (by first | assumption | exact hA)).mono ?_); rintro e w1 ⟨rfl, h1⟩) | (go_at_call 65; (with_reducible refine (take_any (by first | assumption | exact hA) hl).mono ?_); rintro e w1 ⟨rfl, h1⟩) | (go_at_call 49; (with_reducible refine (nbg_0 (by first | assumption | exact hA)).mono ?_); rintro e w1 ⟨rfl, h1⟩) | (go_at_call 69; (with_reducible refine (nameW_any (by first | assumption | exact hA)).mono ?_); rintro e w1 ⟨rfl, h1⟩; have hc := h1.res hgo))
      refine bodyPost_ret (v := Tok.val { kind := 4, text := runesBytes (nm (dp 1 r)).1, id := nbg (dp 1 r) 0 }) ?_ rfl ⟨rfl, h1.wrote h _ _ _ _ _ _⟩
      simp [results, Try.results45, go_sem, hc, Tok.val]
  · have e : hashT r = (markT (ah r 0), dp 1 r) := by unfold hashT; rw [if_neg hb]
    have hb2 : sName (ah r 1) = false := by simp at hb; simp [hb]
    have hb3 : esc r 1 = false := by simp at hb; simp [hb]
    clear hb
    rw [e]
    clear e
    go_enter Try.func45, Try.ntmps45
    go_wp2_with (first | (go_at_call 41; (with_reducible refine (ahead_1 (by first | assumption | exact hA)).mono ?_); rintro e w1 ⟨rfl, h1⟩) | (go_at_call 68; (with_reducible refine (name_any _ _).mono ?_); rintro e w1 ⟨rfl, rfl⟩) | (go_at_call 66; (with_reducible refine (escapes_1 (by first | assumption | exact hA)).mono ?_); rintro e w1 ⟨rfl, h1⟩) | (go_at_call 51; (with_reducible refine (mark_any (by first | assumption | exact hA) hl).mono ?_); rintro e w1 ⟨rfl, h1⟩; have hc := h1.res hgo; simp only [Tok.val]))
    refine bodyPost_ret (v := (markT (ah r 0)).val) ?_ rfl ⟨rfl, h1.wrote h _ _ _ _ _ _⟩
    simp [results, Try.results45, go_sem, hc, Tok.val]
end
end Go.Proofs.Ytfpgkfpehkelcaa
