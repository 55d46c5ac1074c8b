
import Derived.Test.YtfpgkfpehkelcaaTkL
namespace Go.Proofs.Ytfpgkfpehkelcaa
open Go.RowKit
section
variable {g : Nat} {v : Value} {xs r : List Int} {w0 w : World}
theorem skip_back (h : Now 57 g v xs r w0 w) (r' : List Int) (hs : r' <:+ xs) (hl : r'.length = r.length + 1) :
    Calls Try.prog 39 #[.pointer (some ⟨g, 0, none⟩), .int .i64 (-1)] w fun e w' => e = .returned (.tuple #[]) ∧ Now 57 g v xs r' w0 w' :=
  (skip_to h.st (-1) r' hs (by have := hs.length_le; omega)).mono fun _ _ ⟨he, hw⟩ => ⟨he, hw ▸ h.go hs rfl⟩
theorem wh_back (t : List Int) (h : (wh t).length < t.length) : (dp (t.length - (wh t).length - 1) t).length = (wh t).length + 1 := by rw [dp_len]; omega
theorem wh_same (t : List Int) (h : ¬ (wh t).length < t.length) : dp (t.length - (wh t).length - 1) t = wh t := by
  have h1 := wh_suf t
  have h2 := wh_len t
  rw [show t.length - (wh t).length - 1 = 0 by omega]
  exact (h1.eq_of_length (by omega)).symm

set_option maxRecDepth 100000 in
set_option maxHeartbeats 800000 in
theorem url_any (h : Now 57 g v xs r w0 w) (name : ByteArray) (hl : 1 ≤ r.length) :
    Calls Try.prog 75 #[.pointer (some ⟨g, 0, none⟩), .string name] w fun e w' => e = .returned (urlT name r).1.val ∧ Now 57 g v xs (urlT name r).2 w0 w' := by
  have hA := (h.alloc zeroT).st.now
  have hgo := h.st.lt
  have hrl := h.st.rlen'
  have hdl := dp_len 1 r
  have hwl := wh_len (dp 1 r)
  have hds : dp 1 r <:+ xs := (dp_suf 1 r).trans h.st.suf
  by_cases c : ah (wh (dp 1 r)) 0 = 34 ∨ ah (wh (dp 1 r)) 0 = 39
  · have e : urlT name r = ({ kind := 2, text := name }, dp ((dp 1 r).length - (wh (dp 1 r)).length - 1) (dp 1 r)) := by unfold urlT; rw [if_pos c]
    rw [e]
    clear e
    by_cases hk : (wh (dp 1 r)).length < (dp 1 r).length
    · have hb := wh_back _ hk
      have hs2 : dp ((dp 1 r).length - (wh (dp 1 r)).length - 1) (dp 1 r) <:+ xs := (dp_suf _ _).trans hds
      have HB := Lib.hid hb
      have HD := Lib.hid hdl
      clear hb hdl
      rcases c with c | c
      · have b1 : (ah (wh (dp 1 r)) 0 != 34) = false := by simp [c]
        clear c
        go_enter Try.func75, Try.ntmps75
        go_wp2_with (first | (go_at_call 39; (with_reducible refine (skip_back h1 _ hs2 HB.out).mono ?_); rintro e w1 ⟨rfl, h1⟩; have hc := h1.res hgo) | (go_at_call 43; (with_reducible refine (whiteW_any h1).mono ?_); rintro e w1 ⟨rfl, h1⟩) | (first | (go_at_call 65; (with_reducible refine (take_any (by first | assumption | exact hA) hl).mono ?_); rintro e w1 ⟨rfl, h1⟩) | (go_at_call 41; (with_reducible refine (ahead_0 (by repeat (first | assumption | refine Now.alloc ?_ _ | refine Now.set ?_ (by simp; omega) _))).mono ?_); rintro e w1 ⟨rfl, h1⟩)))
        refine bodyPost_ret (v := Tok.val { kind := 2, text := name }) ?_ rfl ⟨rfl, h1.wrote h _ _ _ _ _ _⟩
        simp [results, Try.results75, go_sem, hc, Tok.val]
      · have b1 : (ah (wh (dp 1 r)) 0 != 34) = true := by simp [c]
        have b2 : (ah (wh (dp 1 r)) 0 != 39) = false := by simp [c]
        clear c
        go_enter Try.func75, Try.ntmps75
        go_wp2_with (first | (go_at_call 39; (with_reducible refine (skip_back h1 _ hs2 HB.out).mono ?_); rintro e w1 ⟨rfl, h1⟩; have hc := h1.res hgo) | (go_at_call 43; (with_reducible refine (whiteW_any h1).mono ?_); rintro e w1 ⟨rfl, h1⟩) | (first | (go_at_call 65; (with_reducible refine (take_any (by first | assumption | exact hA) hl).mono ?_); rintro e w1 ⟨rfl, h1⟩) | (go_at_call 41; (with_reducible refine (ahead_0 (by repeat (first | assumption | refine Now.alloc ?_ _ | refine Now.set ?_ (by simp; omega) _))).mono ?_); rintro e w1 ⟨rfl, h1⟩)))
        refine bodyPost_ret (v := Tok.val { kind := 2, text := name }) ?_ rfl ⟨rfl, h1.wrote h _ _ _ _ _ _⟩
        simp [results, Try.results75, go_sem, hc, Tok.val]
    · rw [wh_same _ hk]
      have hle : (dp 1 r).length ≤ (wh (dp 1 r)).length := by omega
      have HD := Lib.hid hdl
      clear hdl hk
      rcases c with c | c
      · have b1 : (ah (wh (dp 1 r)) 0 != 34) = false := by simp [c]
        clear c
        go_enter Try.func75, Try.ntmps75
        go_wp2_with (first | (go_at_call 43; (with_reducible refine (whiteW_any h1).mono ?_); rintro e w1 ⟨rfl, h1⟩) | (go_at_call 41; (with_reducible refine (ahead_0 h1).mono ?_); rintro e w1 ⟨rfl, h1⟩; have hc := h1.res hgo) | (first | (go_at_call 65; (with_reducible refine (take_any (by first | assumption | exact hA) hl).mono ?_); rintro e w1 ⟨rfl, h1⟩)))
        refine bodyPost_ret (v := Tok.val { kind := 2, text := name }) ?_ rfl ⟨rfl, h1.wrote h _ _ _ _ _ _⟩
        simp [results, Try.results75, go_sem, hc, Tok.val]
      · have b1 : (ah (wh (dp 1 r)) 0 != 34) = true := by simp [c]
        have b2 : (ah (wh (dp 1 r)) 0 != 39) = false := by simp [c]
        clear c
        go_enter Try.func75, Try.ntmps75
        go_wp2_with (first | (go_at_call 43; (with_reducible refine (whiteW_any h1).mono ?_); rintro e w1 ⟨rfl, h1⟩) | (go_at_call 41; (with_reducible refine (ahead_0 h1).mono ?_); rintro e w1 ⟨rfl, h1⟩; have hc := h1.res hgo) | (first | (go_at_call 65; (with_reducible refine (take_any (by first | assumption | exact hA) hl).mono ?_); rintro e w1 ⟨rfl, h1⟩)))
        refine bodyPost_ret (v := Tok.val { kind := 2, text := name }) ?_ rfl ⟨rfl, h1.wrote h _ _ _ _ _ _⟩
        simp [results, Try.results75, go_sem, hc, Tok.val]
  · have e : urlT name r = (tokQ 7 8 (adr (wh (dp 1 r))), (adr (wh (dp 1 r))).2.2) := by unfold urlT; rw [if_neg c]
    rw [e]
    clear e
    have b1 : (ah (wh (dp 1 r)) 0 != 34) = true := by simp; intro h; exact c (.inl h)
    have b2 : (ah (wh (dp 1 r)) 0 != 39) = true := by simp; intro h; exact c (.inr h)
    have HD := Lib.hid hdl
    clear c hdl
    go_enter Try.func75, Try.ntmps75
    go_wp2_with (first | (go_at_call 43; (with_reducible refine (whiteW_any h1).mono ?_); rintro e w1 ⟨rfl, h1⟩) | (go_at_call 87; (with_reducible refine (address_any h1).mono ?_); rintro e w1 ⟨rfl, h1⟩; have hc := h1.res hgo; simp only [Tok.val]) | (first | (go_at_call 65; (with_reducible refine (take_any (by first | assumption | exact hA) hl).mono ?_); rintro e w1 ⟨rfl, h1⟩) | (go_at_call 41; (with_reducible refine (ahead_0 (by repeat (first | assumption | refine Now.alloc ?_ _ | refine Now.set ?_ (by simp; omega) _))).mono ?_); rintro e w1 ⟨rfl, h1⟩)))
    refine bodyPost_ret (v := Tok.val (tokQ 7 8 (adr (wh (dp 1 r))))) ?_ rfl ⟨rfl, h1.wrote h _ _ _ _ _ _⟩
    simp [results, Try.results75, go_sem, hc, Tok.val]

set_option maxRecDepth 100000 in
set_option maxHeartbeats 800000 in
theorem ident_any (h : Now 57 g v xs r w0 w) :
    Calls Try.prog 50 #[.pointer (some ⟨g, 0, none⟩)] w fun e w' => e = .returned (identT r).1.val ∧ Now 57 g v xs (identT r).2 w0 w' := by
  have hA := (h.alloc zeroT).st.now
  have hgo := h.st.lt
  have hrl := h.st.rlen'
  have hnl := nm_length r.length r
  have hsz : (runesBytes (nm r).1).size ≤ 1000000000 := by
    have := runesBytes_size_le (nm r).1
    unfold nm at this ⊢
    omega
  by_cases c : ah (nm r).2 0 ≠ 40
  · have e : identT r = ({ kind := 1, text := runesBytes (nm r).1 }, (nm r).2) := by unfold identT; rw [if_pos c]
    rw [e]
    have b1 : (ah (nm r).2 0 != 40) = true := by simp [c]
    clear e c
    go_enter Try.func50, Try.ntmps50
    go_wp2_with (first | (go_at_call 69; (with_reducible refine (nameW_any hA).mono ?_); rintro e w1 ⟨rfl, h1⟩) | (go_at_call 41; (with_reducible refine (ahead_0 h1).mono ?_); rintro e w1 ⟨rfl, h1⟩; have hc := h1.res hgo))
    refine bodyPost_ret (v := Tok.val { kind := 1, text := runesBytes (nm r).1 }) ?_ rfl ⟨rfl, h1.wrote h _ _ _ _ _ _⟩
    simp [results, Try.results50, go_sem, hc, Tok.val]
  · have b1 : (ah (nm r).2 0 != 40) = false := by simpa using c
    have hl2 : 1 ≤ (nm r).2.length := len_of_ah (n := 0) (by intro e; apply c; rw [e]; decide)
    by_cases c2 : ((lowS (runesBytes (nm r).1)).toList == [117, 114, 108]) = true
    · have e : identT r = urlT (runesBytes (nm r).1) (nm r).2 := by unfold identT; rw [if_neg c, if_pos c2]
      rw [e]
      clear e c
      go_enter Try.func50, Try.ntmps50
      go_wp2_with (first | (go_at_call 69; (with_reducible refine (nameW_any hA).mono ?_); rintro e w1 ⟨rfl, h1⟩) | (go_at_call 74; (with_reducible refine (lower_any _ _ hsz).mono ?_); rintro e w2 ⟨rfl, hb2⟩; have h2 := h1.below hb2) | (go_at_call 75; (with_reducible refine (url_any h2 _ hl2).mono ?_); rintro e w1 ⟨rfl, h1⟩; have hc := h1.res hgo; simp only [Tok.val]) | (first | (go_at_call 41; (with_reducible refine (ahead_0 (by repeat (first | assumption | refine Now.alloc ?_ _ | refine Now.set ?_ (by simp; omega) _))).mono ?_); rintro e w1 ⟨rfl, h1⟩)))
      refine bodyPost_ret (v := Tok.val (urlT (runesBytes (nm r).1) (nm r).2).1) ?_ rfl ⟨rfl, h1.wrote h _ _ _ _ _ _⟩
      simp [results, Try.results50, go_sem, hc, Tok.val]
    · have e : identT r = ({ kind := 2, text := runesBytes (nm r).1 }, dp 1 (nm r).2) := by unfold identT; rw [if_neg c, if_neg c2]
      rw [e]
      clear e c
      have b2 : ((lowS (runesBytes (nm r).1)).toList == [117, 114, 108]) = false := by simpa using c2
      clear c2
      go_enter Try.func50, Try.ntmps50
      go_wp2_with (first | (go_at_call 69; (with_reducible refine (nameW_any hA).mono ?_); rintro e w1 ⟨rfl, h1⟩) | (go_at_call 74; (with_reducible refine (lower_any _ _ hsz).mono ?_); rintro e w2 ⟨rfl, hb2⟩; have h2 := h1.below hb2) | (go_at_call 65; (with_reducible refine (take_any h2 hl2).mono ?_); rintro e w1 ⟨rfl, h1⟩; have hc := h1.res hgo) | (first | (go_at_call 41; (with_reducible refine (ahead_0 (by repeat (first | assumption | refine Now.alloc ?_ _ | refine Now.set ?_ (by simp; omega) _))).mono ?_); rintro e w1 ⟨rfl, h1⟩)))
      refine bodyPost_ret (v := Tok.val { kind := 2, text := runesBytes (nm r).1 }) ?_ rfl ⟨rfl, h1.wrote h _ _ _ _ _ _⟩
      simp [results, Try.results50, go_sem, hc, Tok.val]
end
end Go.Proofs.Ytfpgkfpehkelcaa
