
import Derived.Test.YtlajkfnlkkgneaaTkQ
namespace Go.Proofs.Ytlajkfnlkkgneaa
open Go.RowKit
section
variable {g : Nat} {v : Value} {xs r : List Int} {w0 w : World}
set_option maxRecDepth 100000 in
set_option maxHeartbeats 1600000 in
theorem token_white (h : Now 38 g v xs r w0 w) (_ : 1 ≤ r.length) (hw : sWhite (ah r 0) = true) :
    Calls Try.prog 13 #[.pointer (some ⟨g, 0, none⟩)] w fun e w' => e = .returned (({ kind := 13 } : Tok)).val ∧ Now 38 g v xs (wh r) w0 w' := by
  have hgo := h.st.lt
  have hA := (h.alloc zeroT).st.now
  go_enter Try.func13, Try.ntmps13
  go_wp2_with (first | (go_at_call 18; (with_reducible refine (ahead_0 hA).mono ?_); rintro e w1 ⟨rfl, h1⟩) | (first | (go_at_call 19; (with_reducible refine (white_any _ _).mono ?_); rintro e w1 ⟨rfl, rfl⟩)) | (go_at_call 20; (with_reducible refine (whiteW_any h1).mono ?_); rintro e w1 ⟨rfl, h1⟩; have hc := h1.res hgo))
  refine bodyPost_ret (v := (({ kind := 13 } : Tok)).val) ?_ rfl ⟨rfl, h1.wrote h _ _ _ _ _ _⟩
  simp [results, Try.results13, go_sem, hc, Tok.val]
set_option maxRecDepth 100000 in
set_option maxHeartbeats 1600000 in
theorem token_q1 (h : Now 38 g v xs r w0 w) (hl : 1 ≤ r.length) (hw : sWhite (ah r 0) = false) (q1 : (ah r 0 == 34) = true) :
    Calls Try.prog 13 #[.pointer (some ⟨g, 0, none⟩)] w fun e w' => e = .returned ((quotedT r).1).val ∧ Now 38 g v xs ((quotedT r).2) w0 w' := by
  have hgo := h.st.lt
  have hA := (h.alloc zeroT).st.now
  go_enter Try.func13, Try.ntmps13
  go_wp2_with (first | (go_at_call 18; (with_reducible refine (ahead_0 hA).mono ?_); rintro e w1 ⟨rfl, h1⟩) | (first | (go_at_call 19; (with_reducible refine (white_any _ _).mono ?_); rintro e w1 ⟨rfl, rfl⟩)) | (go_at_call 21; (with_reducible refine (quoted_any h1 hl).mono ?_); rintro e w1 ⟨rfl, h1⟩; have hc := h1.res hgo; simp only [Tok.val]))
  refine bodyPost_ret (v := ((quotedT r).1).val) ?_ rfl ⟨rfl, h1.wrote h _ _ _ _ _ _⟩
  simp [results, Try.results13, go_sem, hc, Tok.val]
set_option maxRecDepth 100000 in
set_option maxHeartbeats 1600000 in
theorem token_q2 (h : Now 38 g v xs r w0 w) (hl : 1 ≤ r.length) (hw : sWhite (ah r 0) = false) (q1 : (ah r 0 == 34) = false) (q2 : (ah r 0 == 39) = true) :
    Calls Try.prog 13 #[.pointer (some ⟨g, 0, none⟩)] w fun e w' => e = .returned ((quotedT r).1).val ∧ Now 38 g v xs ((quotedT r).2) w0 w' := by
  have hgo := h.st.lt
  have hA := (h.alloc zeroT).st.now
  go_enter Try.func13, Try.ntmps13
  go_wp2_with (first | (go_at_call 18; (with_reducible refine (ahead_0 hA).mono ?_); rintro e w1 ⟨rfl, h1⟩) | (first | (go_at_call 19; (with_reducible refine (white_any _ _).mono ?_); rintro e w1 ⟨rfl, rfl⟩)) | (go_at_call 21; (with_reducible refine (quoted_any h1 hl).mono ?_); rintro e w1 ⟨rfl, h1⟩; have hc := h1.res hgo; simp only [Tok.val]))
  refine bodyPost_ret (v := ((quotedT r).1).val) ?_ rfl ⟨rfl, h1.wrote h _ _ _ _ _ _⟩
  simp [results, Try.results13, go_sem, hc, Tok.val]
set_option maxRecDepth 100000 in
set_option maxHeartbeats 1600000 in
theorem token_hash (h : Now 38 g v xs r w0 w) (hl : 1 ≤ r.length) (hw : sWhite (ah r 0) = false) (q1 : (ah r 0 == 34) = false) (q2 : (ah r 0 == 39) = false) (q3 : (ah r 0 == 35) = true) :
    Calls Try.prog 13 #[.pointer (some ⟨g, 0, none⟩)] w fun e w' => e = .returned ((hashT r).1).val ∧ Now 38 g v xs ((hashT r).2) w0 w' := by
  have hgo := h.st.lt
  have hA := (h.alloc zeroT).st.now
  go_enter Try.func13, Try.ntmps13
  go_wp2_with (first | (go_at_call 18; (with_reducible refine (ahead_0 hA).mono ?_); rintro e w1 ⟨rfl, h1⟩) | (first | (go_at_call 19; (with_reducible refine (white_any _ _).mono ?_); rintro e w1 ⟨rfl, rfl⟩)) | (go_at_call 22; (with_reducible refine (hash_any h1 hl).mono ?_); rintro e w1 ⟨rfl, h1⟩; have hc := h1.res hgo; simp only [Tok.val]))
  refine bodyPost_ret (v := ((hashT r).1).val) ?_ rfl ⟨rfl, h1.wrote h _ _ _ _ _ _⟩
  simp [results, Try.results13, go_sem, hc, Tok.val]
set_option maxRecDepth 100000 in
set_option maxHeartbeats 1600000 in
theorem token_at (h : Now 38 g v xs r w0 w) (hl : 1 ≤ r.length) (hw : sWhite (ah r 0) = false) (q1 : (ah r 0 == 34) = false) (q2 : (ah r 0 == 39) = false) (q3 : (ah r 0 == 35) = false) (q4 : (ah r 0 == 64) = true) :
    Calls Try.prog 13 #[.pointer (some ⟨g, 0, none⟩)] w fun e w' => e = .returned ((atT r).1).val ∧ Now 38 g v xs ((atT r).2) w0 w' := by
  have hgo := h.st.lt
  have hA := (h.alloc zeroT).st.now
  go_enter Try.func13, Try.ntmps13
  go_wp2_with (first | (go_at_call 18; (with_reducible refine (ahead_0 hA).mono ?_); rintro e w1 ⟨rfl, h1⟩) | (first | (go_at_call 19; (with_reducible refine (white_any _ _).mono ?_); rintro e w1 ⟨rfl, rfl⟩)) | (go_at_call 23; (with_reducible refine (atWord_any h1 hl).mono ?_); rintro e w1 ⟨rfl, h1⟩; have hc := h1.res hgo; simp only [Tok.val]))
  refine bodyPost_ret (v := ((atT r).1).val) ?_ rfl ⟨rfl, h1.wrote h _ _ _ _ _ _⟩
  simp [results, Try.results13, go_sem, hc, Tok.val]
set_option maxRecDepth 100000 in
set_option maxHeartbeats 1600000 in
theorem token_num (h : Now 38 g v xs r w0 w) (hl : 1 ≤ r.length) (hw : sWhite (ah r 0) = false) (q1 : (ah r 0 == 34) = false) (q2 : (ah r 0 == 39) = false) (q3 : (ah r 0 == 35) = false) (q4 : (ah r 0 == 64) = false) (q5 : numB r = true) :
    Calls Try.prog 13 #[.pointer (some ⟨g, 0, none⟩)] w fun e w' => e = .returned ((numberT r).1).val ∧ Now 38 g v xs ((numberT r).2) w0 w' := by
  have hgo := h.st.lt
  have hA := (h.alloc zeroT).st.now
  go_enter Try.func13, Try.ntmps13
  go_wp2_with (first | (go_at_call 18; (with_reducible refine (ahead_0 hA).mono ?_); rintro e w1 ⟨rfl, h1⟩) | (first | (go_at_call 19; (with_reducible refine (white_any _ _).mono ?_); rintro e w1 ⟨rfl, rfl⟩)) | (go_at_call 24; (with_reducible refine (numB_any h1).mono ?_); rintro e w1 ⟨rfl, h1⟩) | (go_at_call 25; (with_reducible refine (number_any h1 hl).mono ?_); rintro e w1 ⟨rfl, h1⟩; have hc := h1.res hgo; simp only [Tok.val]))
  refine bodyPost_ret (v := ((numberT r).1).val) ?_ rfl ⟨rfl, h1.wrote h _ _ _ _ _ _⟩
  simp [results, Try.results13, go_sem, hc, Tok.val]
set_option maxRecDepth 100000 in
set_option maxHeartbeats 1600000 in
theorem token_cdc (h : Now 38 g v xs r w0 w) (_ : 1 ≤ r.length) (hw : sWhite (ah r 0) = false) (q1 : (ah r 0 == 34) = false) (q2 : (ah r 0 == 39) = false) (q3 : (ah r 0 == 35) = false) (q4 : (ah r 0 == 64) = false) (q5 : numB r = false) (HP1 : Hid (pre [45, 45, 62] r = true)) :
    Calls Try.prog 13 #[.pointer (some ⟨g, 0, none⟩)] w fun e w' => e = .returned (({ kind := 15 } : Tok)).val ∧ Now 38 g v xs (dp 3 r) w0 w' := by
  have hgo := h.st.lt
  have hA := (h.alloc zeroT).st.now
  go_enter Try.func13, Try.ntmps13
  go_wp2_with (first | (go_at_call 18; (with_reducible refine (ahead_0 hA).mono ?_); rintro e w1 ⟨rfl, h1⟩) | (first | (go_at_call 19; (with_reducible refine (white_any _ _).mono ?_); rintro e w1 ⟨rfl, rfl⟩)) | (go_at_call 24; (with_reducible refine (numB_any h1).mono ?_); rintro e w1 ⟨rfl, h1⟩) | (go_at_call 15; (with_reducible refine (took_yes h1 ⟨#[45, 45, 62]⟩ [45, 45, 62] (by decide) (by decide) (by decide) HP1.out).mono ?_); rintro e w1 ⟨rfl, h1⟩; have hc := h1.res hgo))
  refine bodyPost_ret (v := (({ kind := 15 } : Tok)).val) ?_ rfl ⟨rfl, h1.wrote h _ _ _ _ _ _⟩
  simp [results, Try.results13, go_sem, hc, Tok.val]
set_option maxRecDepth 100000 in
set_option maxHeartbeats 1600000 in
theorem token_cdo (h : Now 38 g v xs r w0 w) (_ : 1 ≤ r.length) (hw : sWhite (ah r 0) = false) (q1 : (ah r 0 == 34) = false) (q2 : (ah r 0 == 39) = false) (q3 : (ah r 0 == 35) = false) (q4 : (ah r 0 == 64) = false) (q5 : numB r = false) (HP1 : Hid (pre [45, 45, 62] r = false)) (HP2 : Hid (pre [60, 33, 45, 45] r = true)) :
    Calls Try.prog 13 #[.pointer (some ⟨g, 0, none⟩)] w fun e w' => e = .returned (({ kind := 14 } : Tok)).val ∧ Now 38 g v xs (dp 4 r) w0 w' := by
  have hgo := h.st.lt
  have hA := (h.alloc zeroT).st.now
  go_enter Try.func13, Try.ntmps13
  go_wp2_with (first | (go_at_call 18; (with_reducible refine (ahead_0 hA).mono ?_); rintro e w1 ⟨rfl, h1⟩) | (first | (go_at_call 19; (with_reducible refine (white_any _ _).mono ?_); rintro e w1 ⟨rfl, rfl⟩)) | (go_at_call 24; (with_reducible refine (numB_any h1).mono ?_); rintro e w1 ⟨rfl, h1⟩) | (first | (go_at_call 15; (with_reducible refine (took_no h1 ⟨#[45, 45, 62]⟩ [45, 45, 62] (by decide) (by decide) (by decide) HP1.out).mono ?_); rintro e w1 ⟨rfl, h1⟩) | (go_at_call 15; (with_reducible refine (took_yes h1 ⟨#[60, 33, 45, 45]⟩ [60, 33, 45, 45] (by decide) (by decide) (by decide) HP2.out).mono ?_); rintro e w1 ⟨rfl, h1⟩; have hc := h1.res hgo)))
  refine bodyPost_ret (v := (({ kind := 14 } : Tok)).val) ?_ rfl ⟨rfl, h1.wrote h _ _ _ _ _ _⟩
  simp [results, Try.results13, go_sem, hc, Tok.val]
set_option maxRecDepth 100000 in
set_option maxHeartbeats 1600000 in
theorem token_ident (h : Now 38 g v xs r w0 w) (_ : 1 ≤ r.length) (hw : sWhite (ah r 0) = false) (q1 : (ah r 0 == 34) = false) (q2 : (ah r 0 == 39) = false) (q3 : (ah r 0 == 35) = false) (q4 : (ah r 0 == 64) = false) (q5 : numB r = false) (HP1 : Hid (pre [45, 45, 62] r = false)) (HP2 : Hid (pre [60, 33, 45, 45] r = false)) (q6 : nbg r 0 = true) :
    Calls Try.prog 13 #[.pointer (some ⟨g, 0, none⟩)] w fun e w' => e = .returned ((identT r).1).val ∧ Now 38 g v xs ((identT r).2) w0 w' := by
  have hgo := h.st.lt
  have hA := (h.alloc zeroT).st.now
  go_enter Try.func13, Try.ntmps13
  go_wp2_with (first | (go_at_call 18; (with_reducible refine (ahead_0 hA).mono ?_); rintro e w1 ⟨rfl, h1⟩) | (first | (go_at_call 19; (with_reducible refine (white_any _ _).mono ?_); rintro e w1 ⟨rfl, rfl⟩)) | (go_at_call 24; (with_reducible refine (numB_any h1).mono ?_); rintro e w1 ⟨rfl, h1⟩) | (first | (go_at_call 15; (with_reducible refine (took_no h1 ⟨#[45, 45, 62]⟩ [45, 45, 62] (by decide) (by decide) (by decide) HP1.out).mono ?_); rintro e w1 ⟨rfl, h1⟩) | (go_at_call 15; (with_reducible refine (took_no h1 ⟨#[60, 33, 45, 45]⟩ [60, 33, 45, 45] (by decide) (by decide) (by decide) HP2.out).mono ?_); rintro e w1 ⟨rfl, h1⟩)) | (go_at_call 26; (with_reducible refine (nbg_0 h1).mono ?_); rintro e w1 ⟨rfl, h1⟩) | (go_at_call 27; (with_reducible refine (ident_any h1).mono ?_); rintro e w1 ⟨rfl, h1⟩; have hc := h1.res hgo; simp only [Tok.val]))
  refine bodyPost_ret (v := ((identT r).1).val) ?_ rfl ⟨rfl, h1.wrote h _ _ _ _ _ _⟩
  simp [results, Try.results13, go_sem, hc, Tok.val]
set_option maxRecDepth 100000 in
set_option maxHeartbeats 1600000 in
theorem token_mark (h : Now 38 g v xs r w0 w) (hl : 1 ≤ r.length) (hw : sWhite (ah r 0) = false) (q1 : (ah r 0 == 34) = false) (q2 : (ah r 0 == 39) = false) (q3 : (ah r 0 == 35) = false) (q4 : (ah r 0 == 64) = false) (q5 : numB r = false) (HP1 : Hid (pre [45, 45, 62] r = false)) (HP2 : Hid (pre [60, 33, 45, 45] r = false)) (q6 : nbg r 0 = false) :
    Calls Try.prog 13 #[.pointer (some ⟨g, 0, none⟩)] w fun e w' => e = .returned (markT (ah r 0)).val ∧ Now 38 g v xs (dp 1 r) w0 w' := by
  have hgo := h.st.lt
  have hA := (h.alloc zeroT).st.now
  go_enter Try.func13, Try.ntmps13
  go_wp2_with (first | (go_at_call 18; (with_reducible refine (ahead_0 hA).mono ?_); rintro e w1 ⟨rfl, h1⟩) | (first | (go_at_call 19; (with_reducible refine (white_any _ _).mono ?_); rintro e w1 ⟨rfl, rfl⟩)) | (go_at_call 24; (with_reducible refine (numB_any h1).mono ?_); rintro e w1 ⟨rfl, h1⟩) | (first | (go_at_call 15; (with_reducible refine (took_no h1 ⟨#[45, 45, 62]⟩ [45, 45, 62] (by decide) (by decide) (by decide) HP1.out).mono ?_); rintro e w1 ⟨rfl, h1⟩) | (go_at_call 15; (with_reducible refine (took_no h1 ⟨#[60, 33, 45, 45]⟩ [60, 33, 45, 45] (by decide) (by decide) (by decide) HP2.out).mono ?_); rintro e w1 ⟨rfl, h1⟩)) | (go_at_call 26; (with_reducible refine (nbg_0 h1).mono ?_); rintro e w1 ⟨rfl, h1⟩) | (go_at_call 28; (with_reducible refine (mark_any h1 hl).mono ?_); rintro e w1 ⟨rfl, h1⟩; have hc := h1.res hgo; simp only [Tok.val]))
  refine bodyPost_ret (v := (markT (ah r 0)).val) ?_ rfl ⟨rfl, h1.wrote h _ _ _ _ _ _⟩
  simp [results, Try.results13, go_sem, hc, Tok.val]
theorem token_any (h : Now 38 g v xs r w0 w) (hl : 1 ≤ r.length) :
    Calls Try.prog 13 #[.pointer (some ⟨g, 0, none⟩)] w fun e w' => e = .returned (tokT r).1.val ∧ Now 38 g v xs (tokT r).2 w0 w' := by
  by_cases c1 : sWhite (ah r 0) = true
  · have e : tokT r = ({ kind := 13 }, wh r) := by unfold tokT; rw [if_pos c1]
    rw [e]
    exact token_white h hl c1
  have c1' : sWhite (ah r 0) = false := by simpa using c1
  by_cases c2 : ah r 0 = 34 ∨ ah r 0 = 39
  · have e : tokT r = quotedT r := by unfold tokT; rw [if_neg c1, if_pos c2]
    rw [e]
    by_cases c3 : ah r 0 = 34
    · exact token_q1 h hl c1' (by simp [c3])
    · exact token_q2 h hl c1' (by simp [c3]) (by simpa [c3] using c2)
  have a1 : (ah r 0 == 34) = false := by simp; intro hh; exact c2 (.inl hh)
  have a2 : (ah r 0 == 39) = false := by simp; intro hh; exact c2 (.inr hh)
  by_cases c3 : ah r 0 = 35
  · have e : tokT r = hashT r := by unfold tokT; rw [if_neg c1, if_neg c2, if_pos c3]
    rw [e]
    exact token_hash h hl c1' a1 a2 (by simp [c3])
  have a3 : (ah r 0 == 35) = false := by simpa using c3
  by_cases c4 : ah r 0 = 64
  · have e : tokT r = atT r := by unfold tokT; rw [if_neg c1, if_neg c2, if_neg c3, if_pos c4]
    rw [e]
    exact token_at h hl c1' a1 a2 a3 (by simp [c4])
  have a4 : (ah r 0 == 64) = false := by simpa using c4
  by_cases c5 : numB r = true
  · have e : tokT r = numberT r := by unfold tokT; rw [if_neg c1, if_neg c2, if_neg c3, if_neg c4, if_pos c5]
    rw [e]
    exact token_num h hl c1' a1 a2 a3 a4 c5
  have a5 : numB r = false := by simpa using c5
  by_cases c6 : pre [45, 45, 62] r = true
  · have e : tokT r = ({ kind := 15 }, dp 3 r) := by unfold tokT; rw [if_neg c1, if_neg c2, if_neg c3, if_neg c4, if_neg c5, if_pos c6]
    rw [e]
    exact token_cdc h hl c1' a1 a2 a3 a4 a5 c6
  have a6 : pre [45, 45, 62] r = false := by simpa using c6
  by_cases c7 : pre [60, 33, 45, 45] r = true
  · have e : tokT r = ({ kind := 14 }, dp 4 r) := by unfold tokT; rw [if_neg c1, if_neg c2, if_neg c3, if_neg c4, if_neg c5, if_neg c6, if_pos c7]
    rw [e]
    exact token_cdo h hl c1' a1 a2 a3 a4 a5 a6 c7
  have a7 : pre [60, 33, 45, 45] r = false := by simpa using c7
  by_cases c8 : nbg r 0 = true
  · have e : tokT r = identT r := by unfold tokT; rw [if_neg c1, if_neg c2, if_neg c3, if_neg c4, if_neg c5, if_neg c6, if_neg c7, if_pos c8]
    rw [e]
    exact token_ident h hl c1' a1 a2 a3 a4 a5 a6 a7 c8
  · have e : tokT r = (markT (ah r 0), dp 1 r) := by unfold tokT; rw [if_neg c1, if_neg c2, if_neg c3, if_neg c4, if_neg c5, if_neg c6, if_neg c7, if_neg c8]
    rw [e]
    exact token_mark h hl c1' a1 a2 a3 a4 a5 a6 a7 (by simpa using c8)
end
end Go.Proofs.Ytlajkfnlkkgneaa
