import Derived.Test.YtclicjiakkcfcaaGreatDoorTrH
set_option maxRecDepth 100000
set_option maxHeartbeats 6400000
namespace Go.Proofs.YtclicjiakkcfcaaGreatDoor
open Go.RowKit
section
variable {g : Nat} {v : Value} {xs r : List Int} {w0 w : World}
theorem rtok_num_n43 (h : Now 101 g v xs r w0 w) (_hl : 1 ≤ r.length) (H5 : Hid (∀ j, j < 9 → ¬ nth plL j = ah r 0)) (HT : Hid (tokT r = ((numberT r).1, (numberT r).2))) (hw : sWhite (ah r 0) = false) (b34 : (ah r 0 == 34) = false) (b39 : (ah r 0 == 39) = false) (b35 : (ah r 0 == 35) = false) (b43 : (ah r 0 == 43) = true) (hn : numB r = true) :
    Calls Tryz.prog 29 #[.pointer (some ⟨g, 0, none⟩)] w fun e w' => e = .returned (tokT r).1.val ∧ Now 101 g v xs (tokT r).2 w0 w' := by
  have hgo := h.st.lt
  have hws := h.gw.size
  have hxl := h.st.len
  have hrl := h.st.rlen
  have hA := (h.alloc zeroT).st.now
  have hZ := TokB.zero w
  go_enter Tryz.func29, Tryz.ntmps29
  go_wp2_with (go_at_call 28; (with_reducible refine (sign_0 hA).mono ?_); rintro e w1 ⟨rfl, h1⟩)
  have hW := (h1.alloc plO).alloc kdO
  obtain ⟨hpl, hkd⟩ := rtok_tabs w1
  have hgk : g < w1.heap.size + 1 := by have := h1.gw.size; simp at this; omega
  clear h1 hA
  generalize (w1.alloc plO).alloc kdO = W at *
  generalize w1.heap.size + 1 = bk at *
  generalize w1.heap.size = bp at *
  have HPL := Lib.hid hpl
  have HKD := Lib.hid hkd
  clear hpl hkd
  go_loop [6] (fun iv => ∃ k : Nat, k ≤ 9 ∧ iv = .int .i64 k) (fun iv => 9 - (intOf iv).toNat)
  case atStart => exact ⟨0, by omega, rfl⟩
  case round =>
   obtain ⟨k, hk, rfl⟩ := hrel
   by_cases hlt : k < 9
   · have c1 := HPL.out k hlt
     have hb : (nth plL k == ah r 0) = false := by simp [H5.out k hlt]
     go_wp2
     go_round
     case rel => exact ⟨k + 1, by omega, by go_num⟩
     case measure => simp [intOf]; omega
   · obtain rfl : k = 9 := by omega
     clear HPL HKD H5
     go_wp2_with (first | (first | (go_at_call 44; refine (refwhite_any _ _).mono ?_; rintro e w1 ⟨rfl, rfl⟩)) | (first | (go_at_call 50; refine (refdigit_any _ _).mono ?_; rintro e w1 ⟨rfl, rfl⟩)) | (go_at_call 51; (with_reducible refine (rnumbers_any (by assumption)).mono ?_); rintro e w1 ⟨rfl, h1⟩) | (go_at_call 52; (with_reducible refine (rnumber_any (by assumption)).mono ?_); rintro e w1 ⟨rfl, h1⟩; have hc := h1.res hgo; simp only [Tok.val]))
     all_goals refine bodyPost_ret (v := Tok.val ((numberT r).1)) ?_ rfl ⟨by rw [HT.out], by rw [HT.out]; exact h1.wrote h _ _ _ _ _ _⟩
     all_goals simp [results, Tryz.results29, go_sem, hc, Tok.val]
theorem rtok_num_n45 (h : Now 101 g v xs r w0 w) (_hl : 1 ≤ r.length) (H5 : Hid (∀ j, j < 9 → ¬ nth plL j = ah r 0)) (HT : Hid (tokT r = ((numberT r).1, (numberT r).2))) (hw : sWhite (ah r 0) = false) (b34 : (ah r 0 == 34) = false) (b39 : (ah r 0 == 39) = false) (b35 : (ah r 0 == 35) = false) (b43 : (ah r 0 == 43) = false) (b45 : (ah r 0 == 45) = true) (hn : numB r = true) :
    Calls Tryz.prog 29 #[.pointer (some ⟨g, 0, none⟩)] w fun e w' => e = .returned (tokT r).1.val ∧ Now 101 g v xs (tokT r).2 w0 w' := by
  have hgo := h.st.lt
  have hws := h.gw.size
  have hxl := h.st.len
  have hrl := h.st.rlen
  have hA := (h.alloc zeroT).st.now
  have hZ := TokB.zero w
  go_enter Tryz.func29, Tryz.ntmps29
  go_wp2_with (go_at_call 28; (with_reducible refine (sign_0 hA).mono ?_); rintro e w1 ⟨rfl, h1⟩)
  have hW := (h1.alloc plO).alloc kdO
  obtain ⟨hpl, hkd⟩ := rtok_tabs w1
  have hgk : g < w1.heap.size + 1 := by have := h1.gw.size; simp at this; omega
  clear h1 hA
  generalize (w1.alloc plO).alloc kdO = W at *
  generalize w1.heap.size + 1 = bk at *
  generalize w1.heap.size = bp at *
  have HPL := Lib.hid hpl
  have HKD := Lib.hid hkd
  clear hpl hkd
  go_loop [6] (fun iv => ∃ k : Nat, k ≤ 9 ∧ iv = .int .i64 k) (fun iv => 9 - (intOf iv).toNat)
  case atStart => exact ⟨0, by omega, rfl⟩
  case round =>
   obtain ⟨k, hk, rfl⟩ := hrel
   by_cases hlt : k < 9
   · have c1 := HPL.out k hlt
     have hb : (nth plL k == ah r 0) = false := by simp [H5.out k hlt]
     go_wp2
     go_round
     case rel => exact ⟨k + 1, by omega, by go_num⟩
     case measure => simp [intOf]; omega
   · obtain rfl : k = 9 := by omega
     clear HPL HKD H5
     go_wp2_with (first | (first | (go_at_call 44; refine (refwhite_any _ _).mono ?_; rintro e w1 ⟨rfl, rfl⟩)) | (first | (go_at_call 50; refine (refdigit_any _ _).mono ?_; rintro e w1 ⟨rfl, rfl⟩)) | (go_at_call 51; (with_reducible refine (rnumbers_any (by assumption)).mono ?_); rintro e w1 ⟨rfl, h1⟩) | (go_at_call 52; (with_reducible refine (rnumber_any (by assumption)).mono ?_); rintro e w1 ⟨rfl, h1⟩; have hc := h1.res hgo; simp only [Tok.val]))
     all_goals refine bodyPost_ret (v := Tok.val ((numberT r).1)) ?_ rfl ⟨by rw [HT.out], by rw [HT.out]; exact h1.wrote h _ _ _ _ _ _⟩
     all_goals simp [results, Tryz.results29, go_sem, hc, Tok.val]
theorem rtok_num_n46 (h : Now 101 g v xs r w0 w) (_hl : 1 ≤ r.length) (H5 : Hid (∀ j, j < 9 → ¬ nth plL j = ah r 0)) (HT : Hid (tokT r = ((numberT r).1, (numberT r).2))) (hw : sWhite (ah r 0) = false) (b34 : (ah r 0 == 34) = false) (b39 : (ah r 0 == 39) = false) (b35 : (ah r 0 == 35) = false) (b43 : (ah r 0 == 43) = false) (b45 : (ah r 0 == 45) = false) (b46 : (ah r 0 == 46) = true) (hn : numB r = true) :
    Calls Tryz.prog 29 #[.pointer (some ⟨g, 0, none⟩)] w fun e w' => e = .returned (tokT r).1.val ∧ Now 101 g v xs (tokT r).2 w0 w' := by
  have hgo := h.st.lt
  have hws := h.gw.size
  have hxl := h.st.len
  have hrl := h.st.rlen
  have hA := (h.alloc zeroT).st.now
  have hZ := TokB.zero w
  go_enter Tryz.func29, Tryz.ntmps29
  go_wp2_with (go_at_call 28; (with_reducible refine (sign_0 hA).mono ?_); rintro e w1 ⟨rfl, h1⟩)
  have hW := (h1.alloc plO).alloc kdO
  obtain ⟨hpl, hkd⟩ := rtok_tabs w1
  have hgk : g < w1.heap.size + 1 := by have := h1.gw.size; simp at this; omega
  clear h1 hA
  generalize (w1.alloc plO).alloc kdO = W at *
  generalize w1.heap.size + 1 = bk at *
  generalize w1.heap.size = bp at *
  have HPL := Lib.hid hpl
  have HKD := Lib.hid hkd
  clear hpl hkd
  go_loop [6] (fun iv => ∃ k : Nat, k ≤ 9 ∧ iv = .int .i64 k) (fun iv => 9 - (intOf iv).toNat)
  case atStart => exact ⟨0, by omega, rfl⟩
  case round =>
   obtain ⟨k, hk, rfl⟩ := hrel
   by_cases hlt : k < 9
   · have c1 := HPL.out k hlt
     have hb : (nth plL k == ah r 0) = false := by simp [H5.out k hlt]
     go_wp2
     go_round
     case rel => exact ⟨k + 1, by omega, by go_num⟩
     case measure => simp [intOf]; omega
   · obtain rfl : k = 9 := by omega
     clear HPL HKD H5
     go_wp2_with (first | (first | (go_at_call 44; refine (refwhite_any _ _).mono ?_; rintro e w1 ⟨rfl, rfl⟩)) | (first | (go_at_call 50; refine (refdigit_any _ _).mono ?_; rintro e w1 ⟨rfl, rfl⟩)) | (go_at_call 51; (with_reducible refine (rnumbers_any (by assumption)).mono ?_); rintro e w1 ⟨rfl, h1⟩) | (go_at_call 52; (with_reducible refine (rnumber_any (by assumption)).mono ?_); rintro e w1 ⟨rfl, h1⟩; have hc := h1.res hgo; simp only [Tok.val]))
     all_goals refine bodyPost_ret (v := Tok.val ((numberT r).1)) ?_ rfl ⟨by rw [HT.out], by rw [HT.out]; exact h1.wrote h _ _ _ _ _ _⟩
     all_goals simp [results, Tryz.results29, go_sem, hc, Tok.val]
theorem rtok_num_nd (h : Now 101 g v xs r w0 w) (_hl : 1 ≤ r.length) (H5 : Hid (∀ j, j < 9 → ¬ nth plL j = ah r 0)) (HT : Hid (tokT r = ((numberT r).1, (numberT r).2))) (hw : sWhite (ah r 0) = false) (b34 : (ah r 0 == 34) = false) (b39 : (ah r 0 == 39) = false) (b35 : (ah r 0 == 35) = false) (b43 : (ah r 0 == 43) = false) (b45 : (ah r 0 == 45) = false) (b46 : (ah r 0 == 46) = false) (hd : sDigit (ah r 0) = true) (hn : numB r = true) :
    Calls Tryz.prog 29 #[.pointer (some ⟨g, 0, none⟩)] w fun e w' => e = .returned (tokT r).1.val ∧ Now 101 g v xs (tokT r).2 w0 w' := by
  have hgo := h.st.lt
  have hws := h.gw.size
  have hxl := h.st.len
  have hrl := h.st.rlen
  have hA := (h.alloc zeroT).st.now
  have hZ := TokB.zero w
  go_enter Tryz.func29, Tryz.ntmps29
  go_wp2_with (go_at_call 28; (with_reducible refine (sign_0 hA).mono ?_); rintro e w1 ⟨rfl, h1⟩)
  have hW := (h1.alloc plO).alloc kdO
  obtain ⟨hpl, hkd⟩ := rtok_tabs w1
  have hgk : g < w1.heap.size + 1 := by have := h1.gw.size; simp at this; omega
  clear h1 hA
  generalize (w1.alloc plO).alloc kdO = W at *
  generalize w1.heap.size + 1 = bk at *
  generalize w1.heap.size = bp at *
  have HPL := Lib.hid hpl
  have HKD := Lib.hid hkd
  clear hpl hkd
  go_loop [6] (fun iv => ∃ k : Nat, k ≤ 9 ∧ iv = .int .i64 k) (fun iv => 9 - (intOf iv).toNat)
  case atStart => exact ⟨0, by omega, rfl⟩
  case round =>
   obtain ⟨k, hk, rfl⟩ := hrel
   by_cases hlt : k < 9
   · have c1 := HPL.out k hlt
     have hb : (nth plL k == ah r 0) = false := by simp [H5.out k hlt]
     go_wp2
     go_round
     case rel => exact ⟨k + 1, by omega, by go_num⟩
     case measure => simp [intOf]; omega
   · obtain rfl : k = 9 := by omega
     clear HPL HKD H5
     go_wp2_with (first | (first | (go_at_call 44; refine (refwhite_any _ _).mono ?_; rintro e w1 ⟨rfl, rfl⟩)) | (first | (go_at_call 50; refine (refdigit_any _ _).mono ?_; rintro e w1 ⟨rfl, rfl⟩)) | (go_at_call 51; (with_reducible refine (rnumbers_any (by assumption)).mono ?_); rintro e w1 ⟨rfl, h1⟩) | (go_at_call 52; (with_reducible refine (rnumber_any (by assumption)).mono ?_); rintro e w1 ⟨rfl, h1⟩; have hc := h1.res hgo; simp only [Tok.val]))
     all_goals refine bodyPost_ret (v := Tok.val ((numberT r).1)) ?_ rfl ⟨by rw [HT.out], by rw [HT.out]; exact h1.wrote h _ _ _ _ _ _⟩
     all_goals simp [results, Tryz.results29, go_sem, hc, Tok.val]
theorem rtok_de64 (h : Now 101 g v xs r w0 w) (hl : 1 ≤ r.length) (H5 : Hid (∀ j, j < 9 → ¬ nth plL j = ah r 0)) (HT : Hid (tokT r = ({ kind := 9, text := Utf8.encode (ah r 0) }, dp 1 r))) (hw : sWhite (ah r 0) = false) (b34 : (ah r 0 == 34) = false) (b39 : (ah r 0 == 39) = false) (b35 : (ah r 0 == 35) = false) (b43 : (ah r 0 == 43) = false) (b45 : (ah r 0 == 45) = false) (b46 : (ah r 0 == 46) = false) (hd : sDigit (ah r 0) = false) (b60 : (ah r 0 == 60) = false) (b64 : (ah r 0 == 64) = true) (hb : nbg r 1 = false) (hg : nbg r 0 = false) :
    Calls Tryz.prog 29 #[.pointer (some ⟨g, 0, none⟩)] w fun e w' => e = .returned (tokT r).1.val ∧ Now 101 g v xs (tokT r).2 w0 w' := by
  have hgo := h.st.lt
  have hws := h.gw.size
  have hxl := h.st.len
  have hrl := h.st.rlen
  have hA := (h.alloc zeroT).st.now
  have hZ := TokB.zero w
  go_enter Tryz.func29, Tryz.ntmps29
  go_wp2_with (go_at_call 28; (with_reducible refine (sign_0 hA).mono ?_); rintro e w1 ⟨rfl, h1⟩)
  have hW := (h1.alloc plO).alloc kdO
  obtain ⟨hpl, hkd⟩ := rtok_tabs w1
  have hgk : g < w1.heap.size + 1 := by have := h1.gw.size; simp at this; omega
  clear h1 hA
  generalize (w1.alloc plO).alloc kdO = W at *
  generalize w1.heap.size + 1 = bk at *
  generalize w1.heap.size = bp at *
  have HPL := Lib.hid hpl
  have HKD := Lib.hid hkd
  clear hpl hkd
  go_loop [6] (fun iv => ∃ k : Nat, k ≤ 9 ∧ iv = .int .i64 k) (fun iv => 9 - (intOf iv).toNat)
  case atStart => exact ⟨0, by omega, rfl⟩
  case round =>
   obtain ⟨k, hk, rfl⟩ := hrel
   by_cases hlt : k < 9
   · have c1 := HPL.out k hlt
     have hb : (nth plL k == ah r 0) = false := by simp [H5.out k hlt]
     go_wp2
     go_round
     case rel => exact ⟨k + 1, by omega, by go_num⟩
     case measure => simp [intOf]; omega
   · obtain rfl : k = 9 := by omega
     clear HPL HKD H5
     go_wp2_with (first | (first | (go_at_call 44; refine (refwhite_any _ _).mono ?_; rintro e w1 ⟨rfl, rfl⟩)) | (first | (go_at_call 50; refine (refdigit_any _ _).mono ?_; rintro e w1 ⟨rfl, rfl⟩)) | (go_at_call 48; (with_reducible refine (rnames_1 (by assumption)).mono ?_); rintro e w1 ⟨rfl, h1⟩) | (go_at_call 48; (with_reducible refine (rnames_0 (by assumption)).mono ?_); rintro e w1 ⟨rfl, h1⟩) | (go_at_call 54; (with_reducible refine (rdelim_any (by assumption) hl).mono ?_); rintro e w1 ⟨rfl, h1⟩; have hc := h1.res hgo; simp only [Tok.val]))
     all_goals refine bodyPost_ret (v := Tok.val ({ kind := 9, text := Utf8.encode (ah r 0) })) ?_ rfl ⟨by rw [HT.out], by rw [HT.out]; exact h1.wrote h _ _ _ _ _ _⟩
     all_goals simp [results, Tryz.results29, go_sem, hc, Tok.val]
theorem rtok_de (h : Now 101 g v xs r w0 w) (hl : 1 ≤ r.length) (H5 : Hid (∀ j, j < 9 → ¬ nth plL j = ah r 0)) (HT : Hid (tokT r = ({ kind := 9, text := Utf8.encode (ah r 0) }, dp 1 r))) (hw : sWhite (ah r 0) = false) (b34 : (ah r 0 == 34) = false) (b39 : (ah r 0 == 39) = false) (b35 : (ah r 0 == 35) = false) (b43 : (ah r 0 == 43) = false) (b45 : (ah r 0 == 45) = false) (b46 : (ah r 0 == 46) = false) (hd : sDigit (ah r 0) = false) (b60 : (ah r 0 == 60) = false) (b64 : (ah r 0 == 64) = false) (hg : nbg r 0 = false) :
    Calls Tryz.prog 29 #[.pointer (some ⟨g, 0, none⟩)] w fun e w' => e = .returned (tokT r).1.val ∧ Now 101 g v xs (tokT r).2 w0 w' := by
  have hgo := h.st.lt
  have hws := h.gw.size
  have hxl := h.st.len
  have hrl := h.st.rlen
  have hA := (h.alloc zeroT).st.now
  have hZ := TokB.zero w
  go_enter Tryz.func29, Tryz.ntmps29
  go_wp2_with (go_at_call 28; (with_reducible refine (sign_0 hA).mono ?_); rintro e w1 ⟨rfl, h1⟩)
  have hW := (h1.alloc plO).alloc kdO
  obtain ⟨hpl, hkd⟩ := rtok_tabs w1
  have hgk : g < w1.heap.size + 1 := by have := h1.gw.size; simp at this; omega
  clear h1 hA
  generalize (w1.alloc plO).alloc kdO = W at *
  generalize w1.heap.size + 1 = bk at *
  generalize w1.heap.size = bp at *
  have HPL := Lib.hid hpl
  have HKD := Lib.hid hkd
  clear hpl hkd
  go_loop [6] (fun iv => ∃ k : Nat, k ≤ 9 ∧ iv = .int .i64 k) (fun iv => 9 - (intOf iv).toNat)
  case atStart => exact ⟨0, by omega, rfl⟩
  case round =>
   obtain ⟨k, hk, rfl⟩ := hrel
   by_cases hlt : k < 9
   · have c1 := HPL.out k hlt
     have hb : (nth plL k == ah r 0) = false := by simp [H5.out k hlt]
     go_wp2
     go_round
     case rel => exact ⟨k + 1, by omega, by go_num⟩
     case measure => simp [intOf]; omega
   · obtain rfl : k = 9 := by omega
     clear HPL HKD H5
     go_wp2_with (first | (first | (go_at_call 44; refine (refwhite_any _ _).mono ?_; rintro e w1 ⟨rfl, rfl⟩)) | (first | (go_at_call 50; refine (refdigit_any _ _).mono ?_; rintro e w1 ⟨rfl, rfl⟩)) | (go_at_call 48; (with_reducible refine (rnames_0 (by assumption)).mono ?_); rintro e w1 ⟨rfl, h1⟩) | (go_at_call 54; (with_reducible refine (rdelim_any (by assumption) hl).mono ?_); rintro e w1 ⟨rfl, h1⟩; have hc := h1.res hgo; simp only [Tok.val]))
     all_goals refine bodyPost_ret (v := Tok.val ({ kind := 9, text := Utf8.encode (ah r 0) })) ?_ rfl ⟨by rw [HT.out], by rw [HT.out]; exact h1.wrote h _ _ _ _ _ _⟩
     all_goals simp [results, Tryz.results29, go_sem, hc, Tok.val]
end
section
variable {g : Nat} {v : Value} {xs r : List Int} {w0 w : World}
theorem rtok_cdc (h : Now 101 g v xs r w0 w) (_hl : 1 ≤ r.length) (H5 : Hid (∀ j, j < 9 → ¬ nth plL j = ah r 0)) (HT : Hid (tokT r = ({ kind := 15 }, dp 3 r))) (hN : 3 ≤ r.length) (hw : sWhite (ah r 0) = false) (b34 : (ah r 0 == 34) = false) (b39 : (ah r 0 == 39) = false) (b35 : (ah r 0 == 35) = false) (b43 : (ah r 0 == 43) = false) (b45 : (ah r 0 == 45) = true) (hn : numB r = false) (b1 : (ah r 1 == 45) = true) (b2 : (ah r 2 == 62) = true) :
    Calls Tryz.prog 29 #[.pointer (some ⟨g, 0, none⟩)] w fun e w' => e = .returned (tokT r).1.val ∧ Now 101 g v xs (tokT r).2 w0 w' := by
  have hgo := h.st.lt
  have hws := h.gw.size
  have hxl := h.st.len
  have hrl := h.st.rlen
  have hA := (h.alloc zeroT).st.now
  have hZ := TokB.zero w
  go_enter Tryz.func29, Tryz.ntmps29
  go_wp2_with (go_at_call 28; (with_reducible refine (sign_0 hA).mono ?_); rintro e w1 ⟨rfl, h1⟩)
  have hW := (h1.alloc plO).alloc kdO
  obtain ⟨hpl, hkd⟩ := rtok_tabs w1
  have hgk : g < w1.heap.size + 1 := by have := h1.gw.size; simp at this; omega
  clear h1 hA
  generalize (w1.alloc plO).alloc kdO = W at *
  generalize w1.heap.size + 1 = bk at *
  generalize w1.heap.size = bp at *
  have HPL := Lib.hid hpl
  have HKD := Lib.hid hkd
  clear hpl hkd
  go_loop [6] (fun iv => ∃ k : Nat, k ≤ 9 ∧ iv = .int .i64 k) (fun iv => 9 - (intOf iv).toNat)
  case atStart => exact ⟨0, by omega, rfl⟩
  case round =>
   obtain ⟨k, hk, rfl⟩ := hrel
   by_cases hlt : k < 9
   · have c1 := HPL.out k hlt
     have hb : (nth plL k == ah r 0) = false := by simp [H5.out k hlt]
     go_wp2
     go_round
     case rel => exact ⟨k + 1, by omega, by go_num⟩
     case measure => simp [intOf]; omega
   · obtain rfl : k = 9 := by omega
     clear HPL HKD H5
     go_wp2_with (first | (first | (go_at_call 44; refine (refwhite_any _ _).mono ?_; rintro e w1 ⟨rfl, rfl⟩)) | (first | (go_at_call 50; refine (refdigit_any _ _).mono ?_; rintro e w1 ⟨rfl, rfl⟩)) | (go_at_call 51; (with_reducible refine (rnumbers_any (by assumption)).mono ?_); rintro e w1 ⟨rfl, h1⟩) | (go_at_call 28; (with_reducible refine (sign_1 (by assumption)).mono ?_); rintro e w1 ⟨rfl, h1⟩) | (go_at_call 28; (with_reducible refine (sign_2 (by assumption)).mono ?_); rintro e w1 ⟨rfl, h1⟩; have k1 := h1.st.cell1; have k2 := h1.st.free1; have h2 := h1.advN 3 hN (u := ((xs.length - r.length : Nat) : Int) + 3) (by omega); have hc := h2.res hgo))
     all_goals refine bodyPost_ret (v := Tok.val ({ kind := 15 })) ?_ rfl ⟨by rw [HT.out], by rw [HT.out]; exact h2.wrote h _ _ _ _ _ _⟩
     all_goals simp [results, Tryz.results29, go_sem, hc, Tok.val]
theorem rtok_cdo (h : Now 101 g v xs r w0 w) (_hl : 1 ≤ r.length) (H5 : Hid (∀ j, j < 9 → ¬ nth plL j = ah r 0)) (HT : Hid (tokT r = ({ kind := 14 }, dp 4 r))) (hN : 4 ≤ r.length) (hw : sWhite (ah r 0) = false) (b34 : (ah r 0 == 34) = false) (b39 : (ah r 0 == 39) = false) (b35 : (ah r 0 == 35) = false) (b43 : (ah r 0 == 43) = false) (b45 : (ah r 0 == 45) = false) (b46 : (ah r 0 == 46) = false) (hd : sDigit (ah r 0) = false) (b60 : (ah r 0 == 60) = true) (b1 : (ah r 1 == 33) = true) (b2 : (ah r 2 == 45) = true) (b3 : (ah r 3 == 45) = true) :
    Calls Tryz.prog 29 #[.pointer (some ⟨g, 0, none⟩)] w fun e w' => e = .returned (tokT r).1.val ∧ Now 101 g v xs (tokT r).2 w0 w' := by
  have hgo := h.st.lt
  have hws := h.gw.size
  have hxl := h.st.len
  have hrl := h.st.rlen
  have hA := (h.alloc zeroT).st.now
  have hZ := TokB.zero w
  go_enter Tryz.func29, Tryz.ntmps29
  go_wp2_with (go_at_call 28; (with_reducible refine (sign_0 hA).mono ?_); rintro e w1 ⟨rfl, h1⟩)
  have hW := (h1.alloc plO).alloc kdO
  obtain ⟨hpl, hkd⟩ := rtok_tabs w1
  have hgk : g < w1.heap.size + 1 := by have := h1.gw.size; simp at this; omega
  clear h1 hA
  generalize (w1.alloc plO).alloc kdO = W at *
  generalize w1.heap.size + 1 = bk at *
  generalize w1.heap.size = bp at *
  have HPL := Lib.hid hpl
  have HKD := Lib.hid hkd
  clear hpl hkd
  go_loop [6] (fun iv => ∃ k : Nat, k ≤ 9 ∧ iv = .int .i64 k) (fun iv => 9 - (intOf iv).toNat)
  case atStart => exact ⟨0, by omega, rfl⟩
  case round =>
   obtain ⟨k, hk, rfl⟩ := hrel
   by_cases hlt : k < 9
   · have c1 := HPL.out k hlt
     have hb : (nth plL k == ah r 0) = false := by simp [H5.out k hlt]
     go_wp2
     go_round
     case rel => exact ⟨k + 1, by omega, by go_num⟩
     case measure => simp [intOf]; omega
   · obtain rfl : k = 9 := by omega
     clear HPL HKD H5
     go_wp2_with (first | (first | (go_at_call 44; refine (refwhite_any _ _).mono ?_; rintro e w1 ⟨rfl, rfl⟩)) | (first | (go_at_call 50; refine (refdigit_any _ _).mono ?_; rintro e w1 ⟨rfl, rfl⟩)) | (go_at_call 28; (with_reducible refine (sign_1 (by assumption)).mono ?_); rintro e w1 ⟨rfl, h1⟩) | (go_at_call 28; (with_reducible refine (sign_2 (by assumption)).mono ?_); rintro e w1 ⟨rfl, h1⟩) | (go_at_call 28; (with_reducible refine (sign_3 (by assumption)).mono ?_); rintro e w1 ⟨rfl, h1⟩; have k1 := h1.st.cell1; have k2 := h1.st.free1; have h2 := h1.advN 4 hN (u := ((xs.length - r.length : Nat) : Int) + 4) (by omega); have hc := h2.res hgo))
     all_goals refine bodyPost_ret (v := Tok.val ({ kind := 14 })) ?_ rfl ⟨by rw [HT.out], by rw [HT.out]; exact h2.wrote h _ _ _ _ _ _⟩
     all_goals simp [results, Tryz.results29, go_sem, hc, Tok.val]
theorem rtok_at (h : Now 101 g v xs r w0 w) (_hl : 1 ≤ r.length) (H5 : Hid (∀ j, j < 9 → ¬ nth plL j = ah r 0)) (HT : Hid (tokT r = ({ kind := 3, text := runesBytes (nm (dp 1 r)).1 }, (nm (dp 1 r)).2))) (hN : 1 ≤ r.length) (hw : sWhite (ah r 0) = false) (b34 : (ah r 0 == 34) = false) (b39 : (ah r 0 == 39) = false) (b35 : (ah r 0 == 35) = false) (b43 : (ah r 0 == 43) = false) (b45 : (ah r 0 == 45) = false) (b46 : (ah r 0 == 46) = false) (hd : sDigit (ah r 0) = false) (b60 : (ah r 0 == 60) = false) (b64 : (ah r 0 == 64) = true) (hb : nbg r 1 = true) :
    Calls Tryz.prog 29 #[.pointer (some ⟨g, 0, none⟩)] w fun e w' => e = .returned (tokT r).1.val ∧ Now 101 g v xs (tokT r).2 w0 w' := by
  have hgo := h.st.lt
  have hws := h.gw.size
  have hxl := h.st.len
  have hrl := h.st.rlen
  have hA := (h.alloc zeroT).st.now
  have hZ := TokB.zero w
  go_enter Tryz.func29, Tryz.ntmps29
  go_wp2_with (go_at_call 28; (with_reducible refine (sign_0 hA).mono ?_); rintro e w1 ⟨rfl, h1⟩)
  have hW := (h1.alloc plO).alloc kdO
  obtain ⟨hpl, hkd⟩ := rtok_tabs w1
  have hgk : g < w1.heap.size + 1 := by have := h1.gw.size; simp at this; omega
  clear h1 hA
  generalize (w1.alloc plO).alloc kdO = W at *
  generalize w1.heap.size + 1 = bk at *
  generalize w1.heap.size = bp at *
  have HPL := Lib.hid hpl
  have HKD := Lib.hid hkd
  clear hpl hkd
  go_loop [6] (fun iv => ∃ k : Nat, k ≤ 9 ∧ iv = .int .i64 k) (fun iv => 9 - (intOf iv).toNat)
  case atStart => exact ⟨0, by omega, rfl⟩
  case round =>
   obtain ⟨k, hk, rfl⟩ := hrel
   by_cases hlt : k < 9
   · have c1 := HPL.out k hlt
     have hb : (nth plL k == ah r 0) = false := by simp [H5.out k hlt]
     go_wp2
     go_round
     case rel => exact ⟨k + 1, by omega, by go_num⟩
     case measure => simp [intOf]; omega
   · obtain rfl : k = 9 := by omega
     clear HPL HKD H5
     go_wp2_with (first | (first | (go_at_call 44; refine (refwhite_any _ _).mono ?_; rintro e w1 ⟨rfl, rfl⟩)) | (first | (go_at_call 50; refine (refdigit_any _ _).mono ?_; rintro e w1 ⟨rfl, rfl⟩)) | (go_at_call 48; (with_reducible refine (rnames_1 (by assumption)).mono ?_); rintro e w1 ⟨rfl, h1⟩; have k1 := h1.st.cell1; have k2 := h1.st.free1; have h2 := h1.advN 1 hN (u := ((xs.length - r.length : Nat) : Int) + 1) (by omega)) | (go_at_call 49; (with_reducible refine (rname_any h2).mono ?_); rintro e w1 ⟨rfl, h1⟩; have hc := h1.res hgo))
     all_goals refine bodyPost_ret (v := Tok.val ({ kind := 3, text := runesBytes (nm (dp 1 r)).1 })) ?_ rfl ⟨by rw [HT.out], by rw [HT.out]; exact h1.wrote h _ _ _ _ _ _⟩
     all_goals simp [results, Tryz.results29, go_sem, hc, Tok.val]
end
section
variable {g : Nat} {v : Value} {xs r : List Int} {w0 w : World}
theorem rtok_id45a (h : Now 101 g v xs r w0 w) (_hl : 1 ≤ r.length) (H5 : Hid (∀ j, j < 9 → ¬ nth plL j = ah r 0)) (HT : Hid (tokT r = ((identT r).1, (identT r).2))) (hw : sWhite (ah r 0) = false) (b34 : (ah r 0 == 34) = false) (b39 : (ah r 0 == 39) = false) (b35 : (ah r 0 == 35) = false) (b43 : (ah r 0 == 43) = false) (b45 : (ah r 0 == 45) = true) (hn : numB r = false) (b1 : (ah r 1 == 45) = false) (b60 : (ah r 0 == 60) = false) (b64 : (ah r 0 == 64) = false) (hg : nbg r 0 = true) :
    Calls Tryz.prog 29 #[.pointer (some ⟨g, 0, none⟩)] w fun e w' => e = .returned (tokT r).1.val ∧ Now 101 g v xs (tokT r).2 w0 w' := by
  have hgo := h.st.lt
  have hws := h.gw.size
  have hxl := h.st.len
  have hrl := h.st.rlen
  have hA := (h.alloc zeroT).st.now
  have hZ := TokB.zero w
  go_enter Tryz.func29, Tryz.ntmps29
  go_wp2_with (go_at_call 28; (with_reducible refine (sign_0 hA).mono ?_); rintro e w1 ⟨rfl, h1⟩)
  have hW := (h1.alloc plO).alloc kdO
  obtain ⟨hpl, hkd⟩ := rtok_tabs w1
  have hgk : g < w1.heap.size + 1 := by have := h1.gw.size; simp at this; omega
  clear h1 hA
  generalize (w1.alloc plO).alloc kdO = W at *
  generalize w1.heap.size + 1 = bk at *
  generalize w1.heap.size = bp at *
  have HPL := Lib.hid hpl
  have HKD := Lib.hid hkd
  clear hpl hkd
  go_loop [6] (fun iv => ∃ k : Nat, k ≤ 9 ∧ iv = .int .i64 k) (fun iv => 9 - (intOf iv).toNat)
  case atStart => exact ⟨0, by omega, rfl⟩
  case round =>
   obtain ⟨k, hk, rfl⟩ := hrel
   by_cases hlt : k < 9
   · have c1 := HPL.out k hlt
     have hb : (nth plL k == ah r 0) = false := by simp [H5.out k hlt]
     go_wp2
     go_round
     case rel => exact ⟨k + 1, by omega, by go_num⟩
     case measure => simp [intOf]; omega
   · obtain rfl : k = 9 := by omega
     clear HPL HKD H5
     go_wp2_with (first | (first | (go_at_call 44; refine (refwhite_any _ _).mono ?_; rintro e w1 ⟨rfl, rfl⟩)) | (first | (go_at_call 50; refine (refdigit_any _ _).mono ?_; rintro e w1 ⟨rfl, rfl⟩)) | (go_at_call 51; (with_reducible refine (rnumbers_any (by assumption)).mono ?_); rintro e w1 ⟨rfl, h1⟩) | (go_at_call 28; (with_reducible refine (sign_1 (by assumption)).mono ?_); rintro e w1 ⟨rfl, h1⟩) | (go_at_call 48; (with_reducible refine (rnames_0 (by assumption)).mono ?_); rintro e w1 ⟨rfl, h1⟩) | (go_at_call 53; (with_reducible refine (rident_any (by assumption)).mono ?_); rintro e w1 ⟨rfl, h1⟩; have hc := h1.res hgo; simp only [Tok.val]))
     all_goals refine bodyPost_ret (v := Tok.val ((identT r).1)) ?_ rfl ⟨by rw [HT.out], by rw [HT.out]; exact h1.wrote h _ _ _ _ _ _⟩
     all_goals simp [results, Tryz.results29, go_sem, hc, Tok.val]
theorem rtok_id45b (h : Now 101 g v xs r w0 w) (_hl : 1 ≤ r.length) (H5 : Hid (∀ j, j < 9 → ¬ nth plL j = ah r 0)) (HT : Hid (tokT r = ((identT r).1, (identT r).2))) (hw : sWhite (ah r 0) = false) (b34 : (ah r 0 == 34) = false) (b39 : (ah r 0 == 39) = false) (b35 : (ah r 0 == 35) = false) (b43 : (ah r 0 == 43) = false) (b45 : (ah r 0 == 45) = true) (hn : numB r = false) (b1 : (ah r 1 == 45) = true) (b2 : (ah r 2 == 62) = false) (b60 : (ah r 0 == 60) = false) (b64 : (ah r 0 == 64) = false) (hg : nbg r 0 = true) :
    Calls Tryz.prog 29 #[.pointer (some ⟨g, 0, none⟩)] w fun e w' => e = .returned (tokT r).1.val ∧ Now 101 g v xs (tokT r).2 w0 w' := by
  have hgo := h.st.lt
  have hws := h.gw.size
  have hxl := h.st.len
  have hrl := h.st.rlen
  have hA := (h.alloc zeroT).st.now
  have hZ := TokB.zero w
  go_enter Tryz.func29, Tryz.ntmps29
  go_wp2_with (go_at_call 28; (with_reducible refine (sign_0 hA).mono ?_); rintro e w1 ⟨rfl, h1⟩)
  have hW := (h1.alloc plO).alloc kdO
  obtain ⟨hpl, hkd⟩ := rtok_tabs w1
  have hgk : g < w1.heap.size + 1 := by have := h1.gw.size; simp at this; omega
  clear h1 hA
  generalize (w1.alloc plO).alloc kdO = W at *
  generalize w1.heap.size + 1 = bk at *
  generalize w1.heap.size = bp at *
  have HPL := Lib.hid hpl
  have HKD := Lib.hid hkd
  clear hpl hkd
  go_loop [6] (fun iv => ∃ k : Nat, k ≤ 9 ∧ iv = .int .i64 k) (fun iv => 9 - (intOf iv).toNat)
  case atStart => exact ⟨0, by omega, rfl⟩
  case round =>
   obtain ⟨k, hk, rfl⟩ := hrel
   by_cases hlt : k < 9
   · have c1 := HPL.out k hlt
     have hb : (nth plL k == ah r 0) = false := by simp [H5.out k hlt]
     go_wp2
     go_round
     case rel => exact ⟨k + 1, by omega, by go_num⟩
     case measure => simp [intOf]; omega
   · obtain rfl : k = 9 := by omega
     clear HPL HKD H5
     go_wp2_with (first | (first | (go_at_call 44; refine (refwhite_any _ _).mono ?_; rintro e w1 ⟨rfl, rfl⟩)) | (first | (go_at_call 50; refine (refdigit_any _ _).mono ?_; rintro e w1 ⟨rfl, rfl⟩)) | (go_at_call 51; (with_reducible refine (rnumbers_any (by assumption)).mono ?_); rintro e w1 ⟨rfl, h1⟩) | (go_at_call 28; (with_reducible refine (sign_1 (by assumption)).mono ?_); rintro e w1 ⟨rfl, h1⟩) | (go_at_call 28; (with_reducible refine (sign_2 (by assumption)).mono ?_); rintro e w1 ⟨rfl, h1⟩) | (go_at_call 48; (with_reducible refine (rnames_0 (by assumption)).mono ?_); rintro e w1 ⟨rfl, h1⟩) | (go_at_call 53; (with_reducible refine (rident_any (by assumption)).mono ?_); rintro e w1 ⟨rfl, h1⟩; have hc := h1.res hgo; simp only [Tok.val]))
     all_goals refine bodyPost_ret (v := Tok.val ((identT r).1)) ?_ rfl ⟨by rw [HT.out], by rw [HT.out]; exact h1.wrote h _ _ _ _ _ _⟩
     all_goals simp [results, Tryz.results29, go_sem, hc, Tok.val]
theorem rtok_id (h : Now 101 g v xs r w0 w) (_hl : 1 ≤ r.length) (H5 : Hid (∀ j, j < 9 → ¬ nth plL j = ah r 0)) (HT : Hid (tokT r = ((identT r).1, (identT r).2))) (hw : sWhite (ah r 0) = false) (b34 : (ah r 0 == 34) = false) (b39 : (ah r 0 == 39) = false) (b35 : (ah r 0 == 35) = false) (b43 : (ah r 0 == 43) = false) (b45 : (ah r 0 == 45) = false) (b46 : (ah r 0 == 46) = false) (hd : sDigit (ah r 0) = false) (b60 : (ah r 0 == 60) = false) (b64 : (ah r 0 == 64) = false) (hg : nbg r 0 = true) :
    Calls Tryz.prog 29 #[.pointer (some ⟨g, 0, none⟩)] w fun e w' => e = .returned (tokT r).1.val ∧ Now 101 g v xs (tokT r).2 w0 w' := by
  have hgo := h.st.lt
  have hws := h.gw.size
  have hxl := h.st.len
  have hrl := h.st.rlen
  have hA := (h.alloc zeroT).st.now
  have hZ := TokB.zero w
  go_enter Tryz.func29, Tryz.ntmps29
  go_wp2_with (go_at_call 28; (with_reducible refine (sign_0 hA).mono ?_); rintro e w1 ⟨rfl, h1⟩)
  have hW := (h1.alloc plO).alloc kdO
  obtain ⟨hpl, hkd⟩ := rtok_tabs w1
  have hgk : g < w1.heap.size + 1 := by have := h1.gw.size; simp at this; omega
  clear h1 hA
  generalize (w1.alloc plO).alloc kdO = W at *
  generalize w1.heap.size + 1 = bk at *
  generalize w1.heap.size = bp at *
  have HPL := Lib.hid hpl
  have HKD := Lib.hid hkd
  clear hpl hkd
  go_loop [6] (fun iv => ∃ k : Nat, k ≤ 9 ∧ iv = .int .i64 k) (fun iv => 9 - (intOf iv).toNat)
  case atStart => exact ⟨0, by omega, rfl⟩
  case round =>
   obtain ⟨k, hk, rfl⟩ := hrel
   by_cases hlt : k < 9
   · have c1 := HPL.out k hlt
     have hb : (nth plL k == ah r 0) = false := by simp [H5.out k hlt]
     go_wp2
     go_round
     case rel => exact ⟨k + 1, by omega, by go_num⟩
     case measure => simp [intOf]; omega
   · obtain rfl : k = 9 := by omega
     clear HPL HKD H5
     go_wp2_with (first | (first | (go_at_call 44; refine (refwhite_any _ _).mono ?_; rintro e w1 ⟨rfl, rfl⟩)) | (first | (go_at_call 50; refine (refdigit_any _ _).mono ?_; rintro e w1 ⟨rfl, rfl⟩)) | (go_at_call 48; (with_reducible refine (rnames_0 (by assumption)).mono ?_); rintro e w1 ⟨rfl, h1⟩) | (go_at_call 53; (with_reducible refine (rident_any (by assumption)).mono ?_); rintro e w1 ⟨rfl, h1⟩; have hc := h1.res hgo; simp only [Tok.val]))
     all_goals refine bodyPost_ret (v := Tok.val ((identT r).1)) ?_ rfl ⟨by rw [HT.out], by rw [HT.out]; exact h1.wrote h _ _ _ _ _ _⟩
     all_goals simp [results, Tryz.results29, go_sem, hc, Tok.val]
theorem rtok_de35 (h : Now 101 g v xs r w0 w) (hl : 1 ≤ r.length) (H5 : Hid (∀ j, j < 9 → ¬ nth plL j = ah r 0)) (HT : Hid (tokT r = ({ kind := 9, text := Utf8.encode (ah r 0) }, dp 1 r))) (hw : sWhite (ah r 0) = false) (b34 : (ah r 0 == 34) = false) (b39 : (ah r 0 == 39) = false) (b35 : (ah r 0 == 35) = true) (hs : sName (ah r 1) = false) (he : esc r 1 = false) (b43 : (ah r 0 == 43) = false) (b45 : (ah r 0 == 45) = false) (b46 : (ah r 0 == 46) = false) (hd : sDigit (ah r 0) = false) (b60 : (ah r 0 == 60) = false) (b64 : (ah r 0 == 64) = false) (hg : nbg r 0 = false) :
    Calls Tryz.prog 29 #[.pointer (some ⟨g, 0, none⟩)] w fun e w' => e = .returned (tokT r).1.val ∧ Now 101 g v xs (tokT r).2 w0 w' := by
  have hgo := h.st.lt
  have hws := h.gw.size
  have hxl := h.st.len
  have hrl := h.st.rlen
  have hA := (h.alloc zeroT).st.now
  have hZ := TokB.zero w
  go_enter Tryz.func29, Tryz.ntmps29
  go_wp2_with (go_at_call 28; (with_reducible refine (sign_0 hA).mono ?_); rintro e w1 ⟨rfl, h1⟩)
  have hW := (h1.alloc plO).alloc kdO
  obtain ⟨hpl, hkd⟩ := rtok_tabs w1
  have hgk : g < w1.heap.size + 1 := by have := h1.gw.size; simp at this; omega
  clear h1 hA
  generalize (w1.alloc plO).alloc kdO = W at *
  generalize w1.heap.size + 1 = bk at *
  generalize w1.heap.size = bp at *
  have HPL := Lib.hid hpl
  have HKD := Lib.hid hkd
  clear hpl hkd
  go_loop [6] (fun iv => ∃ k : Nat, k ≤ 9 ∧ iv = .int .i64 k) (fun iv => 9 - (intOf iv).toNat)
  case atStart => exact ⟨0, by omega, rfl⟩
  case round =>
   obtain ⟨k, hk, rfl⟩ := hrel
   by_cases hlt : k < 9
   · have c1 := HPL.out k hlt
     have hb : (nth plL k == ah r 0) = false := by simp [H5.out k hlt]
     go_wp2
     go_round
     case rel => exact ⟨k + 1, by omega, by go_num⟩
     case measure => simp [intOf]; omega
   · obtain rfl : k = 9 := by omega
     clear HPL HKD H5
     go_wp2_with (first | (first | (go_at_call 44; refine (refwhite_any _ _).mono ?_; rintro e w1 ⟨rfl, rfl⟩)) | (go_at_call 28; (with_reducible refine (sign_1 (by assumption)).mono ?_); rintro e w1 ⟨rfl, h1⟩) | (first | (go_at_call 46; refine (refname_any _ _).mono ?_; rintro e w1 ⟨rfl, rfl⟩)) | (go_at_call 47; (with_reducible refine (resc_1 (by assumption)).mono ?_); rintro e w1 ⟨rfl, h1⟩) | (first | (go_at_call 50; refine (refdigit_any _ _).mono ?_; rintro e w1 ⟨rfl, rfl⟩)) | (go_at_call 48; (with_reducible refine (rnames_0 (by assumption)).mono ?_); rintro e w1 ⟨rfl, h1⟩) | (go_at_call 54; (with_reducible refine (rdelim_any (by assumption) hl).mono ?_); rintro e w1 ⟨rfl, h1⟩; have hc := h1.res hgo; simp only [Tok.val]))
     all_goals refine bodyPost_ret (v := Tok.val ({ kind := 9, text := Utf8.encode (ah r 0) })) ?_ rfl ⟨by rw [HT.out], by rw [HT.out]; exact h1.wrote h _ _ _ _ _ _⟩
     all_goals simp [results, Tryz.results29, go_sem, hc, Tok.val]
end
section
variable {g : Nat} {v : Value} {xs r : List Int} {w0 w : World}
theorem rtok_de43 (h : Now 101 g v xs r w0 w) (hl : 1 ≤ r.length) (H5 : Hid (∀ j, j < 9 → ¬ nth plL j = ah r 0)) (HT : Hid (tokT r = ({ kind := 9, text := Utf8.encode (ah r 0) }, dp 1 r))) (hw : sWhite (ah r 0) = false) (b34 : (ah r 0 == 34) = false) (b39 : (ah r 0 == 39) = false) (b35 : (ah r 0 == 35) = false) (b43 : (ah r 0 == 43) = true) (hn : numB r = false) (b45 : (ah r 0 == 45) = false) (b60 : (ah r 0 == 60) = false) (b64 : (ah r 0 == 64) = false) (hg : nbg r 0 = false) :
    Calls Tryz.prog 29 #[.pointer (some ⟨g, 0, none⟩)] w fun e w' => e = .returned (tokT r).1.val ∧ Now 101 g v xs (tokT r).2 w0 w' := by
  have hgo := h.st.lt
  have hws := h.gw.size
  have hxl := h.st.len
  have hrl := h.st.rlen
  have hA := (h.alloc zeroT).st.now
  have hZ := TokB.zero w
  go_enter Tryz.func29, Tryz.ntmps29
  go_wp2_with (go_at_call 28; (with_reducible refine (sign_0 hA).mono ?_); rintro e w1 ⟨rfl, h1⟩)
  have hW := (h1.alloc plO).alloc kdO
  obtain ⟨hpl, hkd⟩ := rtok_tabs w1
  have hgk : g < w1.heap.size + 1 := by have := h1.gw.size; simp at this; omega
  clear h1 hA
  generalize (w1.alloc plO).alloc kdO = W at *
  generalize w1.heap.size + 1 = bk at *
  generalize w1.heap.size = bp at *
  have HPL := Lib.hid hpl
  have HKD := Lib.hid hkd
  clear hpl hkd
  go_loop [6] (fun iv => ∃ k : Nat, k ≤ 9 ∧ iv = .int .i64 k) (fun iv => 9 - (intOf iv).toNat)
  case atStart => exact ⟨0, by omega, rfl⟩
  case round =>
   obtain ⟨k, hk, rfl⟩ := hrel
   by_cases hlt : k < 9
   · have c1 := HPL.out k hlt
     have hb : (nth plL k == ah r 0) = false := by simp [H5.out k hlt]
     go_wp2
     go_round
     case rel => exact ⟨k + 1, by omega, by go_num⟩
     case measure => simp [intOf]; omega
   · obtain rfl : k = 9 := by omega
     clear HPL HKD H5
     go_wp2_with (first | (first | (go_at_call 44; refine (refwhite_any _ _).mono ?_; rintro e w1 ⟨rfl, rfl⟩)) | (first | (go_at_call 50; refine (refdigit_any _ _).mono ?_; rintro e w1 ⟨rfl, rfl⟩)) | (go_at_call 51; (with_reducible refine (rnumbers_any (by assumption)).mono ?_); rintro e w1 ⟨rfl, h1⟩) | (go_at_call 48; (with_reducible refine (rnames_0 (by assumption)).mono ?_); rintro e w1 ⟨rfl, h1⟩) | (go_at_call 54; (with_reducible refine (rdelim_any (by assumption) hl).mono ?_); rintro e w1 ⟨rfl, h1⟩; have hc := h1.res hgo; simp only [Tok.val]))
     all_goals refine bodyPost_ret (v := Tok.val ({ kind := 9, text := Utf8.encode (ah r 0) })) ?_ rfl ⟨by rw [HT.out], by rw [HT.out]; exact h1.wrote h _ _ _ _ _ _⟩
     all_goals simp [results, Tryz.results29, go_sem, hc, Tok.val]
theorem rtok_de45 (h : Now 101 g v xs r w0 w) (hl : 1 ≤ r.length) (H5 : Hid (∀ j, j < 9 → ¬ nth plL j = ah r 0)) (HT : Hid (tokT r = ({ kind := 9, text := Utf8.encode (ah r 0) }, dp 1 r))) (hw : sWhite (ah r 0) = false) (b34 : (ah r 0 == 34) = false) (b39 : (ah r 0 == 39) = false) (b35 : (ah r 0 == 35) = false) (b43 : (ah r 0 == 43) = false) (b45 : (ah r 0 == 45) = true) (hn : numB r = false) (b1 : (ah r 1 == 45) = false) (b60 : (ah r 0 == 60) = false) (b64 : (ah r 0 == 64) = false) (hg : nbg r 0 = false) :
    Calls Tryz.prog 29 #[.pointer (some ⟨g, 0, none⟩)] w fun e w' => e = .returned (tokT r).1.val ∧ Now 101 g v xs (tokT r).2 w0 w' := by
  have hgo := h.st.lt
  have hws := h.gw.size
  have hxl := h.st.len
  have hrl := h.st.rlen
  have hA := (h.alloc zeroT).st.now
  have hZ := TokB.zero w
  go_enter Tryz.func29, Tryz.ntmps29
  go_wp2_with (go_at_call 28; (with_reducible refine (sign_0 hA).mono ?_); rintro e w1 ⟨rfl, h1⟩)
  have hW := (h1.alloc plO).alloc kdO
  obtain ⟨hpl, hkd⟩ := rtok_tabs w1
  have hgk : g < w1.heap.size + 1 := by have := h1.gw.size; simp at this; omega
  clear h1 hA
  generalize (w1.alloc plO).alloc kdO = W at *
  generalize w1.heap.size + 1 = bk at *
  generalize w1.heap.size = bp at *
  have HPL := Lib.hid hpl
  have HKD := Lib.hid hkd
  clear hpl hkd
  go_loop [6] (fun iv => ∃ k : Nat, k ≤ 9 ∧ iv = .int .i64 k) (fun iv => 9 - (intOf iv).toNat)
  case atStart => exact ⟨0, by omega, rfl⟩
  case round =>
   obtain ⟨k, hk, rfl⟩ := hrel
   by_cases hlt : k < 9
   · have c1 := HPL.out k hlt
     have hb : (nth plL k == ah r 0) = false := by simp [H5.out k hlt]
     go_wp2
     go_round
     case rel => exact ⟨k + 1, by omega, by go_num⟩
     case measure => simp [intOf]; omega
   · obtain rfl : k = 9 := by omega
     clear HPL HKD H5
     go_wp2_with (first | (first | (go_at_call 44; refine (refwhite_any _ _).mono ?_; rintro e w1 ⟨rfl, rfl⟩)) | (first | (go_at_call 50; refine (refdigit_any _ _).mono ?_; rintro e w1 ⟨rfl, rfl⟩)) | (go_at_call 51; (with_reducible refine (rnumbers_any (by assumption)).mono ?_); rintro e w1 ⟨rfl, h1⟩) | (go_at_call 28; (with_reducible refine (sign_1 (by assumption)).mono ?_); rintro e w1 ⟨rfl, h1⟩) | (go_at_call 48; (with_reducible refine (rnames_0 (by assumption)).mono ?_); rintro e w1 ⟨rfl, h1⟩) | (go_at_call 54; (with_reducible refine (rdelim_any (by assumption) hl).mono ?_); rintro e w1 ⟨rfl, h1⟩; have hc := h1.res hgo; simp only [Tok.val]))
     all_goals refine bodyPost_ret (v := Tok.val ({ kind := 9, text := Utf8.encode (ah r 0) })) ?_ rfl ⟨by rw [HT.out], by rw [HT.out]; exact h1.wrote h _ _ _ _ _ _⟩
     all_goals simp [results, Tryz.results29, go_sem, hc, Tok.val]
theorem rtok_de46 (h : Now 101 g v xs r w0 w) (hl : 1 ≤ r.length) (H5 : Hid (∀ j, j < 9 → ¬ nth plL j = ah r 0)) (HT : Hid (tokT r = ({ kind := 9, text := Utf8.encode (ah r 0) }, dp 1 r))) (hw : sWhite (ah r 0) = false) (b34 : (ah r 0 == 34) = false) (b39 : (ah r 0 == 39) = false) (b35 : (ah r 0 == 35) = false) (b43 : (ah r 0 == 43) = false) (b45 : (ah r 0 == 45) = false) (b46 : (ah r 0 == 46) = true) (hn : numB r = false) (b60 : (ah r 0 == 60) = false) (b64 : (ah r 0 == 64) = false) (hg : nbg r 0 = false) :
    Calls Tryz.prog 29 #[.pointer (some ⟨g, 0, none⟩)] w fun e w' => e = .returned (tokT r).1.val ∧ Now 101 g v xs (tokT r).2 w0 w' := by
  have hgo := h.st.lt
  have hws := h.gw.size
  have hxl := h.st.len
  have hrl := h.st.rlen
  have hA := (h.alloc zeroT).st.now
  have hZ := TokB.zero w
  go_enter Tryz.func29, Tryz.ntmps29
  go_wp2_with (go_at_call 28; (with_reducible refine (sign_0 hA).mono ?_); rintro e w1 ⟨rfl, h1⟩)
  have hW := (h1.alloc plO).alloc kdO
  obtain ⟨hpl, hkd⟩ := rtok_tabs w1
  have hgk : g < w1.heap.size + 1 := by have := h1.gw.size; simp at this; omega
  clear h1 hA
  generalize (w1.alloc plO).alloc kdO = W at *
  generalize w1.heap.size + 1 = bk at *
  generalize w1.heap.size = bp at *
  have HPL := Lib.hid hpl
  have HKD := Lib.hid hkd
  clear hpl hkd
  go_loop [6] (fun iv => ∃ k : Nat, k ≤ 9 ∧ iv = .int .i64 k) (fun iv => 9 - (intOf iv).toNat)
  case atStart => exact ⟨0, by omega, rfl⟩
  case round =>
   obtain ⟨k, hk, rfl⟩ := hrel
   by_cases hlt : k < 9
   · have c1 := HPL.out k hlt
     have hb : (nth plL k == ah r 0) = false := by simp [H5.out k hlt]
     go_wp2
     go_round
     case rel => exact ⟨k + 1, by omega, by go_num⟩
     case measure => simp [intOf]; omega
   · obtain rfl : k = 9 := by omega
     clear HPL HKD H5
     go_wp2_with (first | (first | (go_at_call 44; refine (refwhite_any _ _).mono ?_; rintro e w1 ⟨rfl, rfl⟩)) | (first | (go_at_call 50; refine (refdigit_any _ _).mono ?_; rintro e w1 ⟨rfl, rfl⟩)) | (go_at_call 51; (with_reducible refine (rnumbers_any (by assumption)).mono ?_); rintro e w1 ⟨rfl, h1⟩) | (go_at_call 48; (with_reducible refine (rnames_0 (by assumption)).mono ?_); rintro e w1 ⟨rfl, h1⟩) | (go_at_call 54; (with_reducible refine (rdelim_any (by assumption) hl).mono ?_); rintro e w1 ⟨rfl, h1⟩; have hc := h1.res hgo; simp only [Tok.val]))
     all_goals refine bodyPost_ret (v := Tok.val ({ kind := 9, text := Utf8.encode (ah r 0) })) ?_ rfl ⟨by rw [HT.out], by rw [HT.out]; exact h1.wrote h _ _ _ _ _ _⟩
     all_goals simp [results, Tryz.results29, go_sem, hc, Tok.val]
theorem rtok_de60a (h : Now 101 g v xs r w0 w) (hl : 1 ≤ r.length) (H5 : Hid (∀ j, j < 9 → ¬ nth plL j = ah r 0)) (HT : Hid (tokT r = ({ kind := 9, text := Utf8.encode (ah r 0) }, dp 1 r))) (hw : sWhite (ah r 0) = false) (b34 : (ah r 0 == 34) = false) (b39 : (ah r 0 == 39) = false) (b35 : (ah r 0 == 35) = false) (b43 : (ah r 0 == 43) = false) (b45 : (ah r 0 == 45) = false) (b46 : (ah r 0 == 46) = false) (hd : sDigit (ah r 0) = false) (b60 : (ah r 0 == 60) = true) (b1 : (ah r 1 == 33) = false) (b64 : (ah r 0 == 64) = false) (hg : nbg r 0 = false) :
    Calls Tryz.prog 29 #[.pointer (some ⟨g, 0, none⟩)] w fun e w' => e = .returned (tokT r).1.val ∧ Now 101 g v xs (tokT r).2 w0 w' := by
  have hgo := h.st.lt
  have hws := h.gw.size
  have hxl := h.st.len
  have hrl := h.st.rlen
  have hA := (h.alloc zeroT).st.now
  have hZ := TokB.zero w
  go_enter Tryz.func29, Tryz.ntmps29
  go_wp2_with (go_at_call 28; (with_reducible refine (sign_0 hA).mono ?_); rintro e w1 ⟨rfl, h1⟩)
  have hW := (h1.alloc plO).alloc kdO
  obtain ⟨hpl, hkd⟩ := rtok_tabs w1
  have hgk : g < w1.heap.size + 1 := by have := h1.gw.size; simp at this; omega
  clear h1 hA
  generalize (w1.alloc plO).alloc kdO = W at *
  generalize w1.heap.size + 1 = bk at *
  generalize w1.heap.size = bp at *
  have HPL := Lib.hid hpl
  have HKD := Lib.hid hkd
  clear hpl hkd
  go_loop [6] (fun iv => ∃ k : Nat, k ≤ 9 ∧ iv = .int .i64 k) (fun iv => 9 - (intOf iv).toNat)
  case atStart => exact ⟨0, by omega, rfl⟩
  case round =>
   obtain ⟨k, hk, rfl⟩ := hrel
   by_cases hlt : k < 9
   · have c1 := HPL.out k hlt
     have hb : (nth plL k == ah r 0) = false := by simp [H5.out k hlt]
     go_wp2
     go_round
     case rel => exact ⟨k + 1, by omega, by go_num⟩
     case measure => simp [intOf]; omega
   · obtain rfl : k = 9 := by omega
     clear HPL HKD H5
     go_wp2_with (first | (first | (go_at_call 44; refine (refwhite_any _ _).mono ?_; rintro e w1 ⟨rfl, rfl⟩)) | (first | (go_at_call 50; refine (refdigit_any _ _).mono ?_; rintro e w1 ⟨rfl, rfl⟩)) | (go_at_call 28; (with_reducible refine (sign_1 (by assumption)).mono ?_); rintro e w1 ⟨rfl, h1⟩) | (go_at_call 48; (with_reducible refine (rnames_0 (by assumption)).mono ?_); rintro e w1 ⟨rfl, h1⟩) | (go_at_call 54; (with_reducible refine (rdelim_any (by assumption) hl).mono ?_); rintro e w1 ⟨rfl, h1⟩; have hc := h1.res hgo; simp only [Tok.val]))
     all_goals refine bodyPost_ret (v := Tok.val ({ kind := 9, text := Utf8.encode (ah r 0) })) ?_ rfl ⟨by rw [HT.out], by rw [HT.out]; exact h1.wrote h _ _ _ _ _ _⟩
     all_goals simp [results, Tryz.results29, go_sem, hc, Tok.val]
theorem rtok_de60b (h : Now 101 g v xs r w0 w) (hl : 1 ≤ r.length) (H5 : Hid (∀ j, j < 9 → ¬ nth plL j = ah r 0)) (HT : Hid (tokT r = ({ kind := 9, text := Utf8.encode (ah r 0) }, dp 1 r))) (hw : sWhite (ah r 0) = false) (b34 : (ah r 0 == 34) = false) (b39 : (ah r 0 == 39) = false) (b35 : (ah r 0 == 35) = false) (b43 : (ah r 0 == 43) = false) (b45 : (ah r 0 == 45) = false) (b46 : (ah r 0 == 46) = false) (hd : sDigit (ah r 0) = false) (b60 : (ah r 0 == 60) = true) (b1 : (ah r 1 == 33) = true) (b2 : (ah r 2 == 45) = false) (b64 : (ah r 0 == 64) = false) (hg : nbg r 0 = false) :
    Calls Tryz.prog 29 #[.pointer (some ⟨g, 0, none⟩)] w fun e w' => e = .returned (tokT r).1.val ∧ Now 101 g v xs (tokT r).2 w0 w' := by
  have hgo := h.st.lt
  have hws := h.gw.size
  have hxl := h.st.len
  have hrl := h.st.rlen
  have hA := (h.alloc zeroT).st.now
  have hZ := TokB.zero w
  go_enter Tryz.func29, Tryz.ntmps29
  go_wp2_with (go_at_call 28; (with_reducible refine (sign_0 hA).mono ?_); rintro e w1 ⟨rfl, h1⟩)
  have hW := (h1.alloc plO).alloc kdO
  obtain ⟨hpl, hkd⟩ := rtok_tabs w1
  have hgk : g < w1.heap.size + 1 := by have := h1.gw.size; simp at this; omega
  clear h1 hA
  generalize (w1.alloc plO).alloc kdO = W at *
  generalize w1.heap.size + 1 = bk at *
  generalize w1.heap.size = bp at *
  have HPL := Lib.hid hpl
  have HKD := Lib.hid hkd
  clear hpl hkd
  go_loop [6] (fun iv => ∃ k : Nat, k ≤ 9 ∧ iv = .int .i64 k) (fun iv => 9 - (intOf iv).toNat)
  case atStart => exact ⟨0, by omega, rfl⟩
  case round =>
   obtain ⟨k, hk, rfl⟩ := hrel
   by_cases hlt : k < 9
   · have c1 := HPL.out k hlt
     have hb : (nth plL k == ah r 0) = false := by simp [H5.out k hlt]
     go_wp2
     go_round
     case rel => exact ⟨k + 1, by omega, by go_num⟩
     case measure => simp [intOf]; omega
   · obtain rfl : k = 9 := by omega
     clear HPL HKD H5
     go_wp2_with (first | (first | (go_at_call 44; refine (refwhite_any _ _).mono ?_; rintro e w1 ⟨rfl, rfl⟩)) | (first | (go_at_call 50; refine (refdigit_any _ _).mono ?_; rintro e w1 ⟨rfl, rfl⟩)) | (go_at_call 28; (with_reducible refine (sign_1 (by assumption)).mono ?_); rintro e w1 ⟨rfl, h1⟩) | (go_at_call 28; (with_reducible refine (sign_2 (by assumption)).mono ?_); rintro e w1 ⟨rfl, h1⟩) | (go_at_call 48; (with_reducible refine (rnames_0 (by assumption)).mono ?_); rintro e w1 ⟨rfl, h1⟩) | (go_at_call 54; (with_reducible refine (rdelim_any (by assumption) hl).mono ?_); rintro e w1 ⟨rfl, h1⟩; have hc := h1.res hgo; simp only [Tok.val]))
     all_goals refine bodyPost_ret (v := Tok.val ({ kind := 9, text := Utf8.encode (ah r 0) })) ?_ rfl ⟨by rw [HT.out], by rw [HT.out]; exact h1.wrote h _ _ _ _ _ _⟩
     all_goals simp [results, Tryz.results29, go_sem, hc, Tok.val]
theorem rtok_de60c (h : Now 101 g v xs r w0 w) (hl : 1 ≤ r.length) (H5 : Hid (∀ j, j < 9 → ¬ nth plL j = ah r 0)) (HT : Hid (tokT r = ({ kind := 9, text := Utf8.encode (ah r 0) }, dp 1 r))) (hw : sWhite (ah r 0) = false) (b34 : (ah r 0 == 34) = false) (b39 : (ah r 0 == 39) = false) (b35 : (ah r 0 == 35) = false) (b43 : (ah r 0 == 43) = false) (b45 : (ah r 0 == 45) = false) (b46 : (ah r 0 == 46) = false) (hd : sDigit (ah r 0) = false) (b60 : (ah r 0 == 60) = true) (b1 : (ah r 1 == 33) = true) (b2 : (ah r 2 == 45) = true) (b3 : (ah r 3 == 45) = false) (b64 : (ah r 0 == 64) = false) (hg : nbg r 0 = false) :
    Calls Tryz.prog 29 #[.pointer (some ⟨g, 0, none⟩)] w fun e w' => e = .returned (tokT r).1.val ∧ Now 101 g v xs (tokT r).2 w0 w' := by
  have hgo := h.st.lt
  have hws := h.gw.size
  have hxl := h.st.len
  have hrl := h.st.rlen
  have hA := (h.alloc zeroT).st.now
  have hZ := TokB.zero w
  go_enter Tryz.func29, Tryz.ntmps29
  go_wp2_with (go_at_call 28; (with_reducible refine (sign_0 hA).mono ?_); rintro e w1 ⟨rfl, h1⟩)
  have hW := (h1.alloc plO).alloc kdO
  obtain ⟨hpl, hkd⟩ := rtok_tabs w1
  have hgk : g < w1.heap.size + 1 := by have := h1.gw.size; simp at this; omega
  clear h1 hA
  generalize (w1.alloc plO).alloc kdO = W at *
  generalize w1.heap.size + 1 = bk at *
  generalize w1.heap.size = bp at *
  have HPL := Lib.hid hpl
  have HKD := Lib.hid hkd
  clear hpl hkd
  go_loop [6] (fun iv => ∃ k : Nat, k ≤ 9 ∧ iv = .int .i64 k) (fun iv => 9 - (intOf iv).toNat)
  case atStart => exact ⟨0, by omega, rfl⟩
  case round =>
   obtain ⟨k, hk, rfl⟩ := hrel
   by_cases hlt : k < 9
   · have c1 := HPL.out k hlt
     have hb : (nth plL k == ah r 0) = false := by simp [H5.out k hlt]
     go_wp2
     go_round
     case rel => exact ⟨k + 1, by omega, by go_num⟩
     case measure => simp [intOf]; omega
   · obtain rfl : k = 9 := by omega
     clear HPL HKD H5
     go_wp2_with (first | (first | (go_at_call 44; refine (refwhite_any _ _).mono ?_; rintro e w1 ⟨rfl, rfl⟩)) | (first | (go_at_call 50; refine (refdigit_any _ _).mono ?_; rintro e w1 ⟨rfl, rfl⟩)) | (go_at_call 28; (with_reducible refine (sign_1 (by assumption)).mono ?_); rintro e w1 ⟨rfl, h1⟩) | (go_at_call 28; (with_reducible refine (sign_2 (by assumption)).mono ?_); rintro e w1 ⟨rfl, h1⟩) | (go_at_call 28; (with_reducible refine (sign_3 (by assumption)).mono ?_); rintro e w1 ⟨rfl, h1⟩) | (go_at_call 48; (with_reducible refine (rnames_0 (by assumption)).mono ?_); rintro e w1 ⟨rfl, h1⟩) | (go_at_call 54; (with_reducible refine (rdelim_any (by assumption) hl).mono ?_); rintro e w1 ⟨rfl, h1⟩; have hc := h1.res hgo; simp only [Tok.val]))
     all_goals refine bodyPost_ret (v := Tok.val ({ kind := 9, text := Utf8.encode (ah r 0) })) ?_ rfl ⟨by rw [HT.out], by rw [HT.out]; exact h1.wrote h _ _ _ _ _ _⟩
     all_goals simp [results, Tryz.results29, go_sem, hc, Tok.val]
end
end Go.Proofs.YtclicjiakkcfcaaGreatDoor
