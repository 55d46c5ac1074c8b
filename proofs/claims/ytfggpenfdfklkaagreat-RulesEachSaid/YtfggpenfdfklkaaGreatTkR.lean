
import Derived.Test.YtfggpenfdfklkaaGreatTkO2
namespace Go.Proofs.YtfggpenfdfklkaaGreat
open Go.RowKit
section
variable {g : Nat} {v : Value} {xs r : List Int} {w0 w : World}
set_option maxRecDepth 100000 in
set_option maxHeartbeats 1600000 in
theorem token_white (h : Now 80 g v xs r w0 w) (_ : 1 ≤ r.length) (hw : sWhite (ah r 0) = true) :
    Calls Tryz.prog 52 #[.pointer (some ⟨g, 0, none⟩)] w fun e w' => e = .returned (({ kind := 13 } : Tok)).val ∧ Now 80 g v xs (wh r) w0 w' := by
  have hgo := h.st.lt
  have hA := (h.alloc zeroT).st.now
  go_enter Tryz.func52, Tryz.ntmps52
  go_wp2_with (first | (go_at_call 74; (with_reducible refine (ahead_0 hA).mono ?_); rintro e w1 ⟨rfl, h1⟩) | (first | (go_at_call 75; (with_reducible refine (white_any _ _).mono ?_); rintro e w1 ⟨rfl, rfl⟩)) | (go_at_call 76; (with_reducible refine (whiteW_any h1).mono ?_); rintro e w1 ⟨rfl, h1⟩; have hc := h1.res hgo))
  refine bodyPost_ret (v := (({ kind := 13 } : Tok)).val) ?_ rfl ⟨rfl, h1.wrote h _ _ _ _ _ _⟩
  simp [results, Tryz.results52, go_sem, hc, Tok.val]
set_option maxRecDepth 100000 in
set_option maxHeartbeats 1600000 in
theorem token_q1 (h : Now 80 g v xs r w0 w) (hl : 1 ≤ r.length) (hw : sWhite (ah r 0) = false) (q1 : (ah r 0 == 34) = true) :
    Calls Tryz.prog 52 #[.pointer (some ⟨g, 0, none⟩)] w fun e w' => e = .returned ((quotedT r).1).val ∧ Now 80 g v xs ((quotedT r).2) w0 w' := by
  have hgo := h.st.lt
  have hA := (h.alloc zeroT).st.now
  go_enter Tryz.func52, Tryz.ntmps52
  go_wp2_with (first | (go_at_call 74; (with_reducible refine (ahead_0 hA).mono ?_); rintro e w1 ⟨rfl, h1⟩) | (first | (go_at_call 75; (with_reducible refine (white_any _ _).mono ?_); rintro e w1 ⟨rfl, rfl⟩)) | (go_at_call 77; (with_reducible refine (quoted_any h1 hl).mono ?_); rintro e w1 ⟨rfl, h1⟩; have hc := h1.res hgo; simp only [Tok.val]))
  refine bodyPost_ret (v := ((quotedT r).1).val) ?_ rfl ⟨rfl, h1.wrote h _ _ _ _ _ _⟩
  simp [results, Tryz.results52, go_sem, hc, Tok.val]
set_option maxRecDepth 100000 in
set_option maxHeartbeats 1600000 in
theorem token_q2 (h : Now 80 g v xs r w0 w) (hl : 1 ≤ r.length) (hw : sWhite (ah r 0) = false) (q1 : (ah r 0 == 34) = false) (q2 : (ah r 0 == 39) = true) :
    Calls Tryz.prog 52 #[.pointer (some ⟨g, 0, none⟩)] w fun e w' => e = .returned ((quotedT r).1).val ∧ Now 80 g v xs ((quotedT r).2) w0 w' := by
  have hgo := h.st.lt
  have hA := (h.alloc zeroT).st.now
  go_enter Tryz.func52, Tryz.ntmps52
  go_wp2_with (first | (go_at_call 74; (with_reducible refine (ahead_0 hA).mono ?_); rintro e w1 ⟨rfl, h1⟩) | (first | (go_at_call 75; (with_reducible refine (white_any _ _).mono ?_); rintro e w1 ⟨rfl, rfl⟩)) | (go_at_call 77; (with_reducible refine (quoted_any h1 hl).mono ?_); rintro e w1 ⟨rfl, h1⟩; have hc := h1.res hgo; simp only [Tok.val]))
  refine bodyPost_ret (v := ((quotedT r).1).val) ?_ rfl ⟨rfl, h1.wrote h _ _ _ _ _ _⟩
  simp [results, Tryz.results52, go_sem, hc, Tok.val]
set_option maxRecDepth 100000 in
set_option maxHeartbeats 1600000 in
theorem token_hash (h : Now 80 g v xs r w0 w) (hl : 1 ≤ r.length) (hw : sWhite (ah r 0) = false) (q1 : (ah r 0 == 34) = false) (q2 : (ah r 0 == 39) = false) (q3 : (ah r 0 == 35) = true) :
    Calls Tryz.prog 52 #[.pointer (some ⟨g, 0, none⟩)] w fun e w' => e = .returned ((hashT r).1).val ∧ Now 80 g v xs ((hashT r).2) w0 w' := by
  have hgo := h.st.lt
  have hA := (h.alloc zeroT).st.now
  go_enter Tryz.func52, Tryz.ntmps52
  go_wp2_with (first | (go_at_call 74; (with_reducible refine (ahead_0 hA).mono ?_); rintro e w1 ⟨rfl, h1⟩) | (first | (go_at_call 75; (with_reducible refine (white_any _ _).mono ?_); rintro e w1 ⟨rfl, rfl⟩)) | (go_at_call 78; (with_reducible refine (hash_any h1 hl).mono ?_); rintro e w1 ⟨rfl, h1⟩; have hc := h1.res hgo; simp only [Tok.val]))
  refine bodyPost_ret (v := ((hashT r).1).val) ?_ rfl ⟨rfl, h1.wrote h _ _ _ _ _ _⟩
  simp [results, Tryz.results52, go_sem, hc, Tok.val]
set_option maxRecDepth 100000 in
set_option maxHeartbeats 1600000 in
theorem token_at (h : Now 80 g v xs r w0 w) (hl : 1 ≤ r.length) (hw : sWhite (ah r 0) = false) (q1 : (ah r 0 == 34) = false) (q2 : (ah r 0 == 39) = false) (q3 : (ah r 0 == 35) = false) (q4 : (ah r 0 == 64) = true) :
    Calls Tryz.prog 52 #[.pointer (some ⟨g, 0, none⟩)] w fun e w' => e = .returned ((atT r).1).val ∧ Now 80 g v xs ((atT r).2) w0 w' := by
  have hgo := h.st.lt
  have hA := (h.alloc zeroT).st.now
  go_enter Tryz.func52, Tryz.ntmps52
  go_wp2_with (first | (go_at_call 74; (with_reducible refine (ahead_0 hA).mono ?_); rintro e w1 ⟨rfl, h1⟩) | (first | (go_at_call 75; (with_reducible refine (white_any _ _).mono ?_); rintro e w1 ⟨rfl, rfl⟩)) | (go_at_call 79; (with_reducible refine (atWord_any h1 hl).mono ?_); rintro e w1 ⟨rfl, h1⟩; have hc := h1.res hgo; simp only [Tok.val]))
  refine bodyPost_ret (v := ((atT r).1).val) ?_ rfl ⟨rfl, h1.wrote h _ _ _ _ _ _⟩
  simp [results, Tryz.results52, go_sem, hc, Tok.val]
set_option maxRecDepth 100000 in
set_option maxHeartbeats 1600000 in
theorem token_num (h : Now 80 g v xs r w0 w) (hl : 1 ≤ r.length) (hw : sWhite (ah r 0) = false) (q1 : (ah r 0 == 34) = false) (q2 : (ah r 0 == 39) = false) (q3 : (ah r 0 == 35) = false) (q4 : (ah r 0 == 64) = false) (q5 : numB r = true) :
    Calls Tryz.prog 52 #[.pointer (some ⟨g, 0, none⟩)] w fun e w' => e = .returned ((numberT r).1).val ∧ Now 80 g v xs ((numberT r).2) w0 w' := by
  have hgo := h.st.lt
  have hA := (h.alloc zeroT).st.now
  go_enter Tryz.func52, Tryz.ntmps52
  go_wp2_with (first | (go_at_call 74; (with_reducible refine (ahead_0 hA).mono ?_); rintro e w1 ⟨rfl, h1⟩) | (first | (go_at_call 75; (with_reducible refine (white_any _ _).mono ?_); rintro e w1 ⟨rfl, rfl⟩)) | (go_at_call 80; (with_reducible refine (numB_any h1).mono ?_); rintro e w1 ⟨rfl, h1⟩) | (go_at_call 81; (with_reducible refine (number_any h1 hl).mono ?_); rintro e w1 ⟨rfl, h1⟩; have hc := h1.res hgo; simp only [Tok.val]))
  refine bodyPost_ret (v := ((numberT r).1).val) ?_ rfl ⟨rfl, h1.wrote h _ _ _ _ _ _⟩
  simp [results, Tryz.results52, go_sem, hc, Tok.val]
set_option maxRecDepth 100000 in
set_option maxHeartbeats 1600000 in
theorem token_cdc (h : Now 80 g v xs r w0 w) (_ : 1 ≤ r.length) (hw : sWhite (ah r 0) = false) (q1 : (ah r 0 == 34) = false) (q2 : (ah r 0 == 39) = false) (q3 : (ah r 0 == 35) = false) (q4 : (ah r 0 == 64) = false) (q5 : numB r = false) (HP1 : Hid (pre [45, 45, 62] r = true)) :
    Calls Tryz.prog 52 #[.pointer (some ⟨g, 0, none⟩)] w fun e w' => e = .returned (({ kind := 15 } : Tok)).val ∧ Now 80 g v xs (dp 3 r) w0 w' := by
  have hgo := h.st.lt
  have hA := (h.alloc zeroT).st.now
  go_enter Tryz.func52, Tryz.ntmps52
  go_wp2_with (first | (go_at_call 74; (with_reducible refine (ahead_0 hA).mono ?_); rintro e w1 ⟨rfl, h1⟩) | (first | (go_at_call 75; (with_reducible refine (white_any _ _).mono ?_); rintro e w1 ⟨rfl, rfl⟩)) | (go_at_call 80; (with_reducible refine (numB_any h1).mono ?_); rintro e w1 ⟨rfl, h1⟩) | (go_at_call 71; (with_reducible refine (took_yes h1 ⟨#[45, 45, 62]⟩ [45, 45, 62] (by decide) (by decide) (by decide) HP1.out).mono ?_); rintro e w1 ⟨rfl, h1⟩; have hc := h1.res hgo))
  refine bodyPost_ret (v := (({ kind := 15 } : Tok)).val) ?_ rfl ⟨rfl, h1.wrote h _ _ _ _ _ _⟩
  simp [results, Tryz.results52, go_sem, hc, Tok.val]
set_option maxRecDepth 100000 in
set_option maxHeartbeats 1600000 in
theorem token_cdo (h : Now 80 g v xs r w0 w) (_ : 1 ≤ r.length) (hw : sWhite (ah r 0) = false) (q1 : (ah r 0 == 34) = false) (q2 : (ah r 0 == 39) = false) (q3 : (ah r 0 == 35) = false) (q4 : (ah r 0 == 64) = false) (q5 : numB r = false) (HP1 : Hid (pre [45, 45, 62] r = false)) (HP2 : Hid (pre [60, 33, 45, 45] r = true)) :
    Calls Tryz.prog 52 #[.pointer (some ⟨g, 0, none⟩)] w fun e w' => e = .returned (({ kind := 14 } : Tok)).val ∧ Now 80 g v xs (dp 4 r) w0 w' := by
  have hgo := h.st.lt
  have hA := (h.alloc zeroT).st.now
  go_enter Tryz.func52, Tryz.ntmps52
  go_wp2_with (first | (go_at_call 74; (with_reducible refine (ahead_0 hA).mono ?_); rintro e w1 ⟨rfl, h1⟩) | (first | (go_at_call 75; (with_reducible refine (white_any _ _).mono ?_); rintro e w1 ⟨rfl, rfl⟩)) | (go_at_call 80; (with_reducible refine (numB_any h1).mono ?_); rintro e w1 ⟨rfl, h1⟩) | (first | (go_at_call 71; (with_reducible refine (took_no h1 ⟨#[45, 45, 62]⟩ [45, 45, 62] (by decide) (by decide) (by decide) HP1.out).mono ?_); rintro e w1 ⟨rfl, h1⟩) | (go_at_call 71; (with_reducible refine (took_yes h1 ⟨#[60, 33, 45, 45]⟩ [60, 33, 45, 45] (by decide) (by decide) (by decide) HP2.out).mono ?_); rintro e w1 ⟨rfl, h1⟩; have hc := h1.res hgo)))
  refine bodyPost_ret (v := (({ kind := 14 } : Tok)).val) ?_ rfl ⟨rfl, h1.wrote h _ _ _ _ _ _⟩
  simp [results, Tryz.results52, go_sem, hc, Tok.val]
set_option maxRecDepth 100000 in
set_option maxHeartbeats 1600000 in
theorem token_ident (h : Now 80 g v xs r w0 w) (_ : 1 ≤ r.length) (hw : sWhite (ah r 0) = false) (q1 : (ah r 0 == 34) = false) (q2 : (ah r 0 == 39) = false) (q3 : (ah r 0 == 35) = false) (q4 : (ah r 0 == 64) = false) (q5 : numB r = false) (HP1 : Hid (pre [45, 45, 62] r = false)) (HP2 : Hid (pre [60, 33, 45, 45] r = false)) (q6 : nbg r 0 = true) :
    Calls Tryz.prog 52 #[.pointer (some ⟨g, 0, none⟩)] w fun e w' => e = .returned ((identT r).1).val ∧ Now 80 g v xs ((identT r).2) w0 w' := by
  have hgo := h.st.lt
  have hA := (h.alloc zeroT).st.now
  go_enter Tryz.func52, Tryz.ntmps52
  go_wp2_with (first | (go_at_call 74; (with_reducible refine (ahead_0 hA).mono ?_); rintro e w1 ⟨rfl, h1⟩) | (first | (go_at_call 75; (with_reducible refine (white_any _ _).mono ?_); rintro e w1 ⟨rfl, rfl⟩)) | (go_at_call 80; (with_reducible refine (numB_any h1).mono ?_); rintro e w1 ⟨rfl, h1⟩) | (first | (go_at_call 71; (with_reducible refine (took_no h1 ⟨#[45, 45, 62]⟩ [45, 45, 62] (by decide) (by decide) (by decide) HP1.out).mono ?_); rintro e w1 ⟨rfl, h1⟩) | (go_at_call 71; (with_reducible refine (took_no h1 ⟨#[60, 33, 45, 45]⟩ [60, 33, 45, 45] (by decide) (by decide) (by decide) HP2.out).mono ?_); rintro e w1 ⟨rfl, h1⟩)) | (go_at_call 82; (with_reducible refine (nbg_0 h1).mono ?_); rintro e w1 ⟨rfl, h1⟩) | (go_at_call 83; (with_reducible refine (ident_any h1).mono ?_); rintro e w1 ⟨rfl, h1⟩; have hc := h1.res hgo; simp only [Tok.val]))
  refine bodyPost_ret (v := ((identT r).1).val) ?_ rfl ⟨rfl, h1.wrote h _ _ _ _ _ _⟩
  simp [results, Tryz.results52, go_sem, hc, Tok.val]
set_option maxRecDepth 100000 in
set_option maxHeartbeats 1600000 in
theorem token_mark (h : Now 80 g v xs r w0 w) (hl : 1 ≤ r.length) (hw : sWhite (ah r 0) = false) (q1 : (ah r 0 == 34) = false) (q2 : (ah r 0 == 39) = false) (q3 : (ah r 0 == 35) = false) (q4 : (ah r 0 == 64) = false) (q5 : numB r = false) (HP1 : Hid (pre [45, 45, 62] r = false)) (HP2 : Hid (pre [60, 33, 45, 45] r = false)) (q6 : nbg r 0 = false) :
    Calls Tryz.prog 52 #[.pointer (some ⟨g, 0, none⟩)] w fun e w' => e = .returned (markT (ah r 0)).val ∧ Now 80 g v xs (dp 1 r) w0 w' := by
  have hgo := h.st.lt
  have hA := (h.alloc zeroT).st.now
  go_enter Tryz.func52, Tryz.ntmps52
  go_wp2_with (first | (go_at_call 74; (with_reducible refine (ahead_0 hA).mono ?_); rintro e w1 ⟨rfl, h1⟩) | (first | (go_at_call 75; (with_reducible refine (white_any _ _).mono ?_); rintro e w1 ⟨rfl, rfl⟩)) | (go_at_call 80; (with_reducible refine (numB_any h1).mono ?_); rintro e w1 ⟨rfl, h1⟩) | (first | (go_at_call 71; (with_reducible refine (took_no h1 ⟨#[45, 45, 62]⟩ [45, 45, 62] (by decide) (by decide) (by decide) HP1.out).mono ?_); rintro e w1 ⟨rfl, h1⟩) | (go_at_call 71; (with_reducible refine (took_no h1 ⟨#[60, 33, 45, 45]⟩ [60, 33, 45, 45] (by decide) (by decide) (by decide) HP2.out).mono ?_); rintro e w1 ⟨rfl, h1⟩)) | (go_at_call 82; (with_reducible refine (nbg_0 h1).mono ?_); rintro e w1 ⟨rfl, h1⟩) | (go_at_call 84; (with_reducible refine (mark_any h1 hl).mono ?_); rintro e w1 ⟨rfl, h1⟩; have hc := h1.res hgo; simp only [Tok.val]))
  refine bodyPost_ret (v := (markT (ah r 0)).val) ?_ rfl ⟨rfl, h1.wrote h _ _ _ _ _ _⟩
  simp [results, Tryz.results52, go_sem, hc, Tok.val]
theorem token_any (h : Now 80 g v xs r w0 w) (hl : 1 ≤ r.length) :
    Calls Tryz.prog 52 #[.pointer (some ⟨g, 0, none⟩)] w fun e w' => e = .returned (tokT r).1.val ∧ Now 80 g v xs (tokT r).2 w0 w' := by
  by_cases c1 : sWhite (ah r 0) = true
  · have e : tokT r = ({ kind := 13 }, wh r) := by unfold tokT; rw [if_pos c1]
    rw [e]
    exact token_white h hl c1
  have c1' : sWhite (ah r 0) = false := by simpa using c1
  by_cases c2 : ah r 0 = 34 ∨ ah r 0 = 39
  · have e : tokT r = quotedT r := by unfold tokT; rw [if_neg c1, if_pos c2]
    rw [e]
    by_cases c3 : ah r 0 = 34
    · exact token_q1 h hl c1' (by simp [c3])
    · exact token_q2 h hl c1' (by simp [c3]) (by simpa [c3] using c2)
  have a1 : (ah r 0 == 34) = false := by simp; intro hh; exact c2 (.inl hh)
  have a2 : (ah r 0 == 39) = false := by simp; intro hh; exact c2 (.inr hh)
  by_cases c3 : ah r 0 = 35
  · have e : tokT r = hashT r := by unfold tokT; rw [if_neg c1, if_neg c2, if_pos c3]
    rw [e]
    exact token_hash h hl c1' a1 a2 (by simp [c3])
  have a3 : (ah r 0 == 35) = false := by simpa using c3
  by_cases c4 : ah r 0 = 64
  · have e : tokT r = atT r := by unfold tokT; rw [if_neg c1, if_neg c2, if_neg c3, if_pos c4]
    rw [e]
    exact token_at h hl c1' a1 a2 a3 (by simp [c4])
  have a4 : (ah r 0 == 64) = false := by simpa using c4
  by_cases c5 : numB r = true
  · have e : tokT r = numberT r := by unfold tokT; rw [if_neg c1, if_neg c2, if_neg c3, if_neg c4, if_pos c5]
    rw [e]
    exact token_num h hl c1' a1 a2 a3 a4 c5
  have a5 : numB r = false := by simpa using c5
  by_cases c6 : pre [45, 45, 62] r = true
  · have e : tokT r = ({ kind := 15 }, dp 3 r) := by unfold tokT; rw [if_neg c1, if_neg c2, if_neg c3, if_neg c4, if_neg c5, if_pos c6]
    rw [e]
    exact token_cdc h hl c1' a1 a2 a3 a4 a5 c6
  have a6 : pre [45, 45, 62] r = false := by simpa using c6
  by_cases c7 : pre [60, 33, 45, 45] r = true
  · have e : tokT r = ({ kind := 14 }, dp 4 r) := by unfold tokT; rw [if_neg c1, if_neg c2, if_neg c3, if_neg c4, if_neg c5, if_neg c6, if_pos c7]
    rw [e]
    exact token_cdo h hl c1' a1 a2 a3 a4 a5 a6 c7
  have a7 : pre [60, 33, 45, 45] r = false := by simpa using c7
  by_cases c8 : nbg r 0 = true
  · have e : tokT r = identT r := by unfold tokT; rw [if_neg c1, if_neg c2, if_neg c3, if_neg c4, if_neg c5, if_neg c6, if_neg c7, if_pos c8]
    rw [e]
    exact token_ident h hl c1' a1 a2 a3 a4 a5 a6 a7 c8
  · have e : tokT r = (markT (ah r 0), dp 1 r) := by unfold tokT; rw [if_neg c1, if_neg c2, if_neg c3, if_neg c4, if_neg c5, if_neg c6, if_neg c7, if_neg c8]
    rw [e]
    exact token_mark h hl c1' a1 a2 a3 a4 a5 a6 a7 (by simpa using c8)
end
end Go.Proofs.YtfggpenfdfklkaaGreat
namespace Go.Proofs.YtfggpenfdfklkaaGreat
open Go.RowKit

theorem suf_lt {a b r : List Int} (h : a <:+ b) (hb : b.length < r.length) : a.length < r.length := Nat.lt_of_le_of_lt h.length_le hb
theorem dp1_lt {r : List Int} (h : 1 ≤ r.length) : (dp 1 r).length < r.length := by rw [dp_len]; omega
theorem nm_suf' (r : List Int) : (nm r).2 <:+ r := nm_suf _ _

theorem nm_lt {r : List Int} (h : nbg r 0 = true) : (nm r).2.length < r.length := by
  by_cases c : sName (ah r 0) = true
  · rw [nm_name c]
    exact suf_lt (nm_suf' _) (dp1_lt (len_of_name c))
  · have c' : sName (ah r 0) = false := by simpa using c
    by_cases c2 : esc r 0 = true
    · rw [nm_esc c' c2]
      exact suf_lt ((nm_suf' _).trans (escT_suf _)) (dp1_lt (len_of_esc c2))
    · exfalso
      have c2' : esc r 0 = false := by simpa using c2
      unfold nbg at h
      rw [c2'] at h
      unfold sName at c'
      split at h
      · rename_i h45
        simp [h45] at c'
      · simp at c'
        simp [c'.1.1] at h

theorem num4_lt {r : List Int} (h : numB r = true) : (num4 r).length < r.length := by
  have e4 : num4 r <:+ num3 r := by
    unfold num4
    split
    · exact (cnt_suf _).trans (dp_suf _ _)
    · exact List.suffix_refl _
  refine suf_lt e4 ?_
  unfold numB at h
  by_cases hs : sgn r 0 = true
  · have hl : 1 ≤ r.length := len_of_ah (n := 0) (by intro e; simp [sgn, e] at hs)
    have e1 : num1 r = dp 1 r := by unfold num1; rw [if_pos hs]
    have e3 : num3 r <:+ num1 r := by
      unfold num3
      split
      · exact (cnt_suf _).trans ((dp_suf _ _).trans (cnt_suf _))
      · exact cnt_suf _
    exact suf_lt e3 (by rw [e1]; exact dp1_lt hl)
  · rw [if_neg hs] at h
    have e1 : num1 r = r := by unfold num1; rw [if_neg hs]
    have e2 : num2 r = cnt r := by unfold num2; rw [e1]
    by_cases hd : sDigit (ah r 0) = true
    · have e3 : num3 r <:+ num2 r := by
        unfold num3
        split
        · exact (cnt_suf _).trans (dp_suf _ _)
        · exact List.suffix_refl _
      refine suf_lt e3 ?_
      rw [e2, cnt_yes hd]
      exact suf_lt (cnt_suf _) (dp1_lt (len_of_digit hd))
    · have hd' : sDigit (ah r 0) = false := by simpa using hd
      have hf : frac r 0 = true := by simpa [hd'] using h
      have e3 : num3 r = cnt (dp 1 r) := by unfold num3; rw [e2, cnt_no hd', if_pos hf]
      rw [e3]
      exact suf_lt (cnt_suf _) (dp1_lt (frac_len hf))

theorem urlT_suf (n : ByteArray) (r : List Int) : (urlT n r).2 <:+ r := by
  unfold urlT
  split
  · exact (dp_suf _ _).trans (dp_suf _ _)
  · exact (adr_suf _).trans ((wh_suf _).trans (dp_suf _ _))

theorem tokT_lt {r : List Int} (hl : 1 ≤ r.length) : (tokT r).2.length < r.length := by
  unfold tokT
  split
  · rename_i h
    show (wh r).length < _
    rw [wh_white h]
    exact suf_lt (wh_suf _) (dp1_lt hl)
  split
  · exact suf_lt (qt_suf _ _) (dp1_lt hl)
  split
  · unfold hashT
    split
    · exact suf_lt (nm_suf' _) (dp1_lt hl)
    · exact dp1_lt hl
  split
  · unfold atT
    split
    · exact suf_lt (nm_suf' _) (dp1_lt hl)
    · exact dp1_lt hl
  split
  · rename_i h
    unfold numberT
    split
    · exact suf_lt (nm_suf' _) (num4_lt h)
    split
    · exact suf_lt (dp_suf _ _) (num4_lt h)
    · exact num4_lt h
  split
  · show (dp 3 r).length < _
    rw [dp_len]; omega
  split
  · show (dp 4 r).length < _
    rw [dp_len]; omega
  split
  · rename_i h
    unfold identT
    split
    · exact nm_lt h
    split
    · exact suf_lt (urlT_suf _ _) (nm_lt h)
    · exact suf_lt (dp_suf _ _) (nm_lt h)
  · exact dp1_lt hl

theorem ne_len {r : List Int} (h : ¬ r.isEmpty = true) : 1 ≤ r.length := List.length_pos_iff.2 (by simpa using h)

/-- All tokens. -/
def toks (r : List Int) : List Tok :=
  if _h : (cm r).isEmpty then [] else (tokT (cm r)).1 :: toks (tokT (cm r)).2
termination_by r.length
decreasing_by
  exact Nat.lt_of_lt_of_le (tokT_lt (ne_len ‹_›)) (cm_len r)
/-- All tokens where no comment begins. -/
def toksC (c : List Int) : List Tok := if c.isEmpty then [] else (tokT c).1 :: toks (tokT c).2
theorem toks_eq (r : List Int) : toks r = toksC (cm r) := by
  rw [toks]
  unfold toksC
  by_cases h : (cm r).isEmpty = true
  · rw [dif_pos h, if_pos h]
  · rw [dif_neg h, if_neg h]

theorem toks_test : (toks [97, 123, 98, 58, 49, 125]).length = 6 := by decide +kernel
end Go.Proofs.YtfggpenfdfklkaaGreat
