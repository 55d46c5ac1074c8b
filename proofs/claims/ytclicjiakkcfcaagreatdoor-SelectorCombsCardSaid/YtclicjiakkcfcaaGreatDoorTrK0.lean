import Derived.Test.YtclicjiakkcfcaaGreatDoorTrH
set_option maxRecDepth 100000
set_option maxHeartbeats 6400000
namespace Go.Proofs.YtclicjiakkcfcaaGreatDoor
open Go.RowKit
section
variable {g : Nat} {v : Value} {xs r : List Int} {w0 w : World}
theorem rtok_plain (h : Now 101 g v xs r w0 w) (hl : 1 ≤ r.length) (k0 : Nat) (hk0 : k0 < 9) (hne : ∀ j, j < k0 → ¬ nth plL j = ah r 0) (he : nth plL k0 = ah r 0) :
    Calls Tryz.prog 29 #[.pointer (some ⟨g, 0, none⟩)] w fun e w' => e = .returned (tokT r).1.val ∧ Now 101 g v xs (tokT r).2 w0 w' := by
  have hgo := h.st.lt
  have hws := h.gw.size
  have hxl := h.st.len
  have hrl := h.st.rlen
  have hA := (h.alloc zeroT).st.now
  have hZ := TokB.zero w
  go_enter Tryz.func29, Tryz.ntmps29
  go_wp2_with (go_at_call 28; (with_reducible refine (sign_0 hA).mono ?_); rintro e w1 ⟨rfl, h1⟩)
  have hW := (h1.alloc plO).alloc kdO
  obtain ⟨hpl, hkd⟩ := rtok_tabs w1
  have hgk : g < w1.heap.size + 1 := by have := h1.gw.size; simp at this; omega
  clear h1 hA
  generalize (w1.alloc plO).alloc kdO = W at *
  generalize w1.heap.size + 1 = bk at *
  generalize w1.heap.size = bp at *
  have HPL := Lib.hid hpl
  have HKD := Lib.hid hkd
  clear hpl hkd
  go_loop [6] (fun iv => ∃ k : Nat, k ≤ k0 ∧ iv = .int .i64 k) (fun iv => 9 - (intOf iv).toNat)
  case atStart => exact ⟨0, by omega, rfl⟩
  case round =>
   obtain ⟨k, hk, rfl⟩ := hrel
   have c1 := HPL.out k (by omega)
   by_cases hkk : k < k0
   · have hb : (nth plL k == ah r 0) = false := by simp [hne k hkk]
     have hlt : (k : Int) < 9 := by omega
     clear hne he
     go_wp2
     go_round
     case rel => exact ⟨k + 1, by omega, by go_num⟩
     case measure => simp [intOf]; omega
   · obtain rfl : k = k0 := by omega
     have hlt : k < 9 := hk0
     have hlt2 : (k : Int) < 9 := by omega
     clear hne
     have hb : (nth plL k == ah r 0) = true := by simp [he]
     have HT := Lib.hid (tokT_plain hlt he)
     have k1 := hW.st.cell1
     have k2 := hW.st.free1
     have h2 := hW.adv1 hl
     have c2 : (W.setCell ⟨g, 1, none⟩ (.int .i64 (((xs.length - r.length : Nat) : Int) + 1))).cell? ⟨bk, k, none⟩ = some (.int .i64 (nth kdL k)) := by
      rw [World.cell?_of_block (Below.heap_setCell _ _ _ _ (by show bk ≠ g; omega))]
      exact HKD.out k hlt
     clear he
     go_upto_if 38 with fail
     have hB0 : Now 101 g v xs (dp 1 r) w0 ((W.setCell ⟨g, 1, none⟩ (.int .i64 (((xs.length - r.length : Nat) : Int) + 1))).alloc (.cells #[.int .i64 (nth kdL k), .string ⟨#[]⟩, .int .i64 0, .bool false, .bool false, .bool false] 94)) := (h2.since (h.alloc zeroT)).alloc _
     have hZ1 := (hZ.keep h2 hgo).alloc (.cells #[.int .i64 (nth kdL k), .string ⟨#[]⟩, .int .i64 0, .bool false, .bool false, .bool false] 94)
     have hT := heap_alloc_self (W.setCell ⟨g, 1, none⟩ (.int .i64 (((xs.length - r.length : Nat) : Int) + 1))) (.cells #[.int .i64 (nth kdL k), .string ⟨#[]⟩, .int .i64 0, .bool false, .bool false, .bool false] 94)
     have hws2 : (W.setCell ⟨g, 1, none⟩ (.int .i64 (((xs.length - r.length : Nat) : Int) + 1))).heap.size = W.heap.size := by simp [World.setCell]
     rw [hws2] at hT
     have hg4 : w.heap.size < W.heap.size := by have := hW.gw.size; simp at this; omega
     have hg5 : g < W.heap.size := by omega
     have hT : TokB W.heap.size { kind := nth kdL k } ((W.setCell ⟨g, 1, none⟩ (.int .i64 (((xs.length - r.length : Nat) : Int) + 1))).alloc (.cells #[.int .i64 (nth kdL k), .string ⟨#[]⟩, .int .i64 0, .bool false, .bool false, .bool false] 94)) := hT
     clear c1 c2 k1 k2 h2 hws2 hW HPL HKD hZ h
     generalize (W.setCell ⟨g, 1, none⟩ (.int .i64 (((xs.length - r.length : Nat) : Int) + 1))).alloc (.cells #[.int .i64 (nth kdL k), .string ⟨#[]⟩, .int .i64 0, .bool false, .bool false, .bool false] 94) = wB at *
     generalize W.heap.size = b7 at *
     have hN := hB0.st.now
     by_cases h6 : k < 6
     · have h6' : (k : Int) < 6 := by omega
       go_wp2_with (go_at_call 43; (with_reducible refine (refput_any _ _).mono ?_); rintro e w2 ⟨rfl, hb2⟩; have h2 := hN.below hb2; have hc4 := (hT.keep h2 hg5).cells; have hcz := (hZ1.keep h2 hgo).cells)
       refine bodyPost_ret (v := Tok.val { kind := nth kdL k, text := Utf8.encode (ah r 0) }) ?_ rfl ⟨by rw [HT.out, if_pos h6], ?_⟩
       · simp [results, Tryz.results29, go_sem, hcz, Tok.val]
       · rw [HT.out]; exact ((h2.since hB0).set (p := ⟨b7, 1, none⟩) (by show w0.heap.size ≤ b7; omega) _).put6 hws _ _ _ _ _ _
     · have h6' : ¬ (k : Int) < 6 := by omega
       have hc4 := hT.cells
       have hcz := hZ1.cells
       go_wp2
       refine bodyPost_ret (v := Tok.val { kind := nth kdL k }) ?_ rfl ⟨by rw [HT.out, if_neg h6], ?_⟩
       · simp [results, Tryz.results29, go_sem, hcz, Tok.val]
       · rw [HT.out]; exact hB0.put6 hws _ _ _ _ _ _
theorem rtok_white (h : Now 101 g v xs r w0 w) (_hl : 1 ≤ r.length) (H5 : Hid (∀ j, j < 9 → ¬ nth plL j = ah r 0)) (hw0 : sWhite (ah r 0) = true) :
    Calls Tryz.prog 29 #[.pointer (some ⟨g, 0, none⟩)] w fun e w' => e = .returned (tokT r).1.val ∧ Now 101 g v xs (tokT r).2 w0 w' := by
  have HT := Lib.hid (tok_white hw0)
  have hgo := h.st.lt
  have hws := h.gw.size
  have hxl := h.st.len
  have hrl := h.st.rlen
  have hA := (h.alloc zeroT).st.now
  have hZ := TokB.zero w
  go_enter Tryz.func29, Tryz.ntmps29
  go_wp2_with (go_at_call 28; (with_reducible refine (sign_0 hA).mono ?_); rintro e w1 ⟨rfl, h1⟩)
  have hW := (h1.alloc plO).alloc kdO
  obtain ⟨hpl, hkd⟩ := rtok_tabs w1
  have hgk : g < w1.heap.size + 1 := by have := h1.gw.size; simp at this; omega
  clear h1 hA
  generalize (w1.alloc plO).alloc kdO = W at *
  generalize w1.heap.size + 1 = bk at *
  generalize w1.heap.size = bp at *
  have HPL := Lib.hid hpl
  have HKD := Lib.hid hkd
  clear hpl hkd
  go_loop [6] (fun iv => ∃ k : Nat, k ≤ 9 ∧ iv = .int .i64 k) (fun iv => 9 - (intOf iv).toNat)
  case atStart => exact ⟨0, by omega, rfl⟩
  case round =>
   obtain ⟨k, hk, rfl⟩ := hrel
   by_cases hlt : k < 9
   · have c1 := HPL.out k hlt
     have hb : (nth plL k == ah r 0) = false := by simp [H5.out k hlt]
     go_wp2
     go_round
     case rel => exact ⟨k + 1, by omega, by go_num⟩
     case measure => simp [intOf]; omega
   · obtain rfl : k = 9 := by omega
     clear HPL HKD H5 hlt
     go_wp2_with (first | (go_at_call 44; refine (refwhite_any _ _).mono ?_; rintro e w1 ⟨rfl, rfl⟩))
     go_loopw [] (fun wr => ∃ q, wh q = wh r ∧ Now 101 g v xs q (w.alloc zeroT) wr) (fun wr => left g xs.length wr)
     case atStart => exact ⟨r, rfl, hW⟩
     case round =>
      obtain ⟨q, hq, hn⟩ := hrel
      have HQ := Lib.hid hq
      clear hq hW hw0
      have hql := hn.st.rlen
      by_cases hw : sWhite (ah q 0) = true
      · have hlq := len_of_white hw
        have HW := Lib.hid hw
        go_wp2_with (first | (go_at_call 28; (with_reducible refine (sign_0 hn).mono ?_); rintro e w1 ⟨rfl, h1⟩; have k1 := h1.st.cell1; have k2 := h1.st.free1; have h2 := h1.adv1 hlq) | (first | (go_at_call 44; refine (refwhite_any _ _).mono ?_; rintro e w1 ⟨rfl, rfl⟩)))
        go_roundw
        case rel => exact ⟨dp 1 q, by rw [← wh_white HW.out, HQ.out], h2⟩
        case measure => rw [h2.left, hn.left, dp_len]; omega
      · have hw2 : sWhite (ah q 0) = false := by simpa using hw
        have HW := Lib.hid hw2
        clear hw
        go_wp2_with (first | (go_at_call 28; (with_reducible refine (sign_0 hn).mono ?_); rintro e w1 ⟨rfl, h1⟩; have hc := h1.res hgo) | (first | (go_at_call 44; refine (refwhite_any _ _).mono ?_; rintro e w1 ⟨rfl, rfl⟩)))
        refine bodyPost_ret (v := Tok.val { kind := 13 }) ?_ rfl ⟨by rw [HT.out], by rw [HT.out]; show Now _ _ _ _ (wh r) _ _; rw [← HQ.out, wh_else HW.out]; exact h1.wrote h _ _ _ _ _ _⟩
        simp [results, Tryz.results29, go_sem, hc, Tok.val]
end
section
variable {g : Nat} {v : Value} {xs r : List Int} {w0 w : World}
theorem rtok_q34 (h : Now 101 g v xs r w0 w) (_hl : 1 ≤ r.length) (H5 : Hid (∀ j, j < 9 → ¬ nth plL j = ah r 0)) (HT : Hid (tokT r = ((quotedT r).1, (quotedT r).2))) (hN : 1 ≤ r.length) (hw : sWhite (ah r 0) = false) (b34 : (ah r 0 == 34) = true) :
    Calls Tryz.prog 29 #[.pointer (some ⟨g, 0, none⟩)] w fun e w' => e = .returned (tokT r).1.val ∧ Now 101 g v xs (tokT r).2 w0 w' := by
  have hgo := h.st.lt
  have hws := h.gw.size
  have hxl := h.st.len
  have hrl := h.st.rlen
  have hA := (h.alloc zeroT).st.now
  have hZ := TokB.zero w
  go_enter Tryz.func29, Tryz.ntmps29
  go_wp2_with (go_at_call 28; (with_reducible refine (sign_0 hA).mono ?_); rintro e w1 ⟨rfl, h1⟩)
  have hW := (h1.alloc plO).alloc kdO
  obtain ⟨hpl, hkd⟩ := rtok_tabs w1
  have hgk : g < w1.heap.size + 1 := by have := h1.gw.size; simp at this; omega
  clear h1 hA
  generalize (w1.alloc plO).alloc kdO = W at *
  generalize w1.heap.size + 1 = bk at *
  generalize w1.heap.size = bp at *
  have HPL := Lib.hid hpl
  have HKD := Lib.hid hkd
  clear hpl hkd
  go_loop [6] (fun iv => ∃ k : Nat, k ≤ 9 ∧ iv = .int .i64 k) (fun iv => 9 - (intOf iv).toNat)
  case atStart => exact ⟨0, by omega, rfl⟩
  case round =>
   obtain ⟨k, hk, rfl⟩ := hrel
   by_cases hlt : k < 9
   · have c1 := HPL.out k hlt
     have hb : (nth plL k == ah r 0) = false := by simp [H5.out k hlt]
     go_wp2
     go_round
     case rel => exact ⟨k + 1, by omega, by go_num⟩
     case measure => simp [intOf]; omega
   · obtain rfl : k = 9 := by omega
     clear HPL HKD H5
     have k1 := hW.st.cell1
     have k2 := hW.st.free1
     have h2 := hW.advN 1 hN (u := ((xs.length - r.length : Nat) : Int) + 1) (by omega)
     go_wp2_with (first | (first | (go_at_call 44; refine (refwhite_any _ _).mono ?_; rintro e w1 ⟨rfl, rfl⟩)) | (go_at_call 45; (with_reducible refine (rquoted_any h2 _).mono ?_); rintro e w1 ⟨rfl, h1⟩; have hc := h1.res hgo; simp only [Tok.val]))
     all_goals refine bodyPost_ret (v := Tok.val ((quotedT r).1)) ?_ rfl ⟨by rw [HT.out], by rw [HT.out]; exact h1.wrote h _ _ _ _ _ _⟩
     all_goals simp [results, Tryz.results29, go_sem, hc, Tok.val, quotedT]
theorem rtok_q39 (h : Now 101 g v xs r w0 w) (_hl : 1 ≤ r.length) (H5 : Hid (∀ j, j < 9 → ¬ nth plL j = ah r 0)) (HT : Hid (tokT r = ((quotedT r).1, (quotedT r).2))) (hN : 1 ≤ r.length) (hw : sWhite (ah r 0) = false) (b34 : (ah r 0 == 34) = false) (b39 : (ah r 0 == 39) = true) :
    Calls Tryz.prog 29 #[.pointer (some ⟨g, 0, none⟩)] w fun e w' => e = .returned (tokT r).1.val ∧ Now 101 g v xs (tokT r).2 w0 w' := by
  have hgo := h.st.lt
  have hws := h.gw.size
  have hxl := h.st.len
  have hrl := h.st.rlen
  have hA := (h.alloc zeroT).st.now
  have hZ := TokB.zero w
  go_enter Tryz.func29, Tryz.ntmps29
  go_wp2_with (go_at_call 28; (with_reducible refine (sign_0 hA).mono ?_); rintro e w1 ⟨rfl, h1⟩)
  have hW := (h1.alloc plO).alloc kdO
  obtain ⟨hpl, hkd⟩ := rtok_tabs w1
  have hgk : g < w1.heap.size + 1 := by have := h1.gw.size; simp at this; omega
  clear h1 hA
  generalize (w1.alloc plO).alloc kdO = W at *
  generalize w1.heap.size + 1 = bk at *
  generalize w1.heap.size = bp at *
  have HPL := Lib.hid hpl
  have HKD := Lib.hid hkd
  clear hpl hkd
  go_loop [6] (fun iv => ∃ k : Nat, k ≤ 9 ∧ iv = .int .i64 k) (fun iv => 9 - (intOf iv).toNat)
  case atStart => exact ⟨0, by omega, rfl⟩
  case round =>
   obtain ⟨k, hk, rfl⟩ := hrel
   by_cases hlt : k < 9
   · have c1 := HPL.out k hlt
     have hb : (nth plL k == ah r 0) = false := by simp [H5.out k hlt]
     go_wp2
     go_round
     case rel => exact ⟨k + 1, by omega, by go_num⟩
     case measure => simp [intOf]; omega
   · obtain rfl : k = 9 := by omega
     clear HPL HKD H5
     have k1 := hW.st.cell1
     have k2 := hW.st.free1
     have h2 := hW.advN 1 hN (u := ((xs.length - r.length : Nat) : Int) + 1) (by omega)
     go_wp2_with (first | (first | (go_at_call 44; refine (refwhite_any _ _).mono ?_; rintro e w1 ⟨rfl, rfl⟩)) | (go_at_call 45; (with_reducible refine (rquoted_any h2 _).mono ?_); rintro e w1 ⟨rfl, h1⟩; have hc := h1.res hgo; simp only [Tok.val]))
     all_goals refine bodyPost_ret (v := Tok.val ((quotedT r).1)) ?_ rfl ⟨by rw [HT.out], by rw [HT.out]; exact h1.wrote h _ _ _ _ _ _⟩
     all_goals simp [results, Tryz.results29, go_sem, hc, Tok.val, quotedT]
theorem rtok_hash1 (h : Now 101 g v xs r w0 w) (_hl : 1 ≤ r.length) (H5 : Hid (∀ j, j < 9 → ¬ nth plL j = ah r 0)) (HT : Hid (tokT r = ({ kind := 4, text := runesBytes (nm (dp 1 r)).1, id := nbg (dp 1 r) 0 }, (nm (dp 1 r)).2))) (hN : 1 ≤ r.length) (hw : sWhite (ah r 0) = false) (b34 : (ah r 0 == 34) = false) (b39 : (ah r 0 == 39) = false) (b35 : (ah r 0 == 35) = true) (hs : sName (ah r 1) = true) :
    Calls Tryz.prog 29 #[.pointer (some ⟨g, 0, none⟩)] w fun e w' => e = .returned (tokT r).1.val ∧ Now 101 g v xs (tokT r).2 w0 w' := by
  have hgo := h.st.lt
  have hws := h.gw.size
  have hxl := h.st.len
  have hrl := h.st.rlen
  have hA := (h.alloc zeroT).st.now
  have hZ := TokB.zero w
  go_enter Tryz.func29, Tryz.ntmps29
  go_wp2_with (go_at_call 28; (with_reducible refine (sign_0 hA).mono ?_); rintro e w1 ⟨rfl, h1⟩)
  have hW := (h1.alloc plO).alloc kdO
  obtain ⟨hpl, hkd⟩ := rtok_tabs w1
  have hgk : g < w1.heap.size + 1 := by have := h1.gw.size; simp at this; omega
  clear h1 hA
  generalize (w1.alloc plO).alloc kdO = W at *
  generalize w1.heap.size + 1 = bk at *
  generalize w1.heap.size = bp at *
  have HPL := Lib.hid hpl
  have HKD := Lib.hid hkd
  clear hpl hkd
  go_loop [6] (fun iv => ∃ k : Nat, k ≤ 9 ∧ iv = .int .i64 k) (fun iv => 9 - (intOf iv).toNat)
  case atStart => exact ⟨0, by omega, rfl⟩
  case round =>
   obtain ⟨k, hk, rfl⟩ := hrel
   by_cases hlt : k < 9
   · have c1 := HPL.out k hlt
     have hb : (nth plL k == ah r 0) = false := by simp [H5.out k hlt]
     go_wp2
     go_round
     case rel => exact ⟨k + 1, by omega, by go_num⟩
     case measure => simp [intOf]; omega
   · obtain rfl : k = 9 := by omega
     clear HPL HKD H5
     go_wp2_with (first | (first | (go_at_call 44; refine (refwhite_any _ _).mono ?_; rintro e w1 ⟨rfl, rfl⟩)) | (go_at_call 28; (with_reducible refine (sign_1 (by assumption)).mono ?_); rintro e w1 ⟨rfl, h1⟩; have k1 := h1.st.cell1; have k2 := h1.st.free1; have h2 := h1.advN 1 hN (u := ((xs.length - r.length : Nat) : Int) + 1) (by omega)) | (first | (go_at_call 46; refine (refname_any _ _).mono ?_; rintro e w1 ⟨rfl, rfl⟩)) | (go_at_call 48; (with_reducible refine (rnames_0 h2).mono ?_); rintro e w1 ⟨rfl, h1⟩) | (go_at_call 49; (with_reducible refine (rname_any h1).mono ?_); rintro e w1 ⟨rfl, h1⟩; have hc := h1.res hgo))
     all_goals refine bodyPost_ret (v := Tok.val ({ kind := 4, text := runesBytes (nm (dp 1 r)).1, id := nbg (dp 1 r) 0 })) ?_ rfl ⟨by rw [HT.out], by rw [HT.out]; exact h1.wrote h _ _ _ _ _ _⟩
     all_goals simp [results, Tryz.results29, go_sem, hc, Tok.val]
theorem rtok_hash2 (h : Now 101 g v xs r w0 w) (_hl : 1 ≤ r.length) (H5 : Hid (∀ j, j < 9 → ¬ nth plL j = ah r 0)) (HT : Hid (tokT r = ({ kind := 4, text := runesBytes (nm (dp 1 r)).1, id := nbg (dp 1 r) 0 }, (nm (dp 1 r)).2))) (hN : 1 ≤ r.length) (hw : sWhite (ah r 0) = false) (b34 : (ah r 0 == 34) = false) (b39 : (ah r 0 == 39) = false) (b35 : (ah r 0 == 35) = true) (hs : sName (ah r 1) = false) (he : esc r 1 = true) :
    Calls Tryz.prog 29 #[.pointer (some ⟨g, 0, none⟩)] w fun e w' => e = .returned (tokT r).1.val ∧ Now 101 g v xs (tokT r).2 w0 w' := by
  have hgo := h.st.lt
  have hws := h.gw.size
  have hxl := h.st.len
  have hrl := h.st.rlen
  have hA := (h.alloc zeroT).st.now
  have hZ := TokB.zero w
  go_enter Tryz.func29, Tryz.ntmps29
  go_wp2_with (go_at_call 28; (with_reducible refine (sign_0 hA).mono ?_); rintro e w1 ⟨rfl, h1⟩)
  have hW := (h1.alloc plO).alloc kdO
  obtain ⟨hpl, hkd⟩ := rtok_tabs w1
  have hgk : g < w1.heap.size + 1 := by have := h1.gw.size; simp at this; omega
  clear h1 hA
  generalize (w1.alloc plO).alloc kdO = W at *
  generalize w1.heap.size + 1 = bk at *
  generalize w1.heap.size = bp at *
  have HPL := Lib.hid hpl
  have HKD := Lib.hid hkd
  clear hpl hkd
  go_loop [6] (fun iv => ∃ k : Nat, k ≤ 9 ∧ iv = .int .i64 k) (fun iv => 9 - (intOf iv).toNat)
  case atStart => exact ⟨0, by omega, rfl⟩
  case round =>
   obtain ⟨k, hk, rfl⟩ := hrel
   by_cases hlt : k < 9
   · have c1 := HPL.out k hlt
     have hb : (nth plL k == ah r 0) = false := by simp [H5.out k hlt]
     go_wp2
     go_round
     case rel => exact ⟨k + 1, by omega, by go_num⟩
     case measure => simp [intOf]; omega
   · obtain rfl : k = 9 := by omega
     clear HPL HKD H5
     go_wp2_with (first | (first | (go_at_call 44; refine (refwhite_any _ _).mono ?_; rintro e w1 ⟨rfl, rfl⟩)) | (go_at_call 28; (with_reducible refine (sign_1 (by assumption)).mono ?_); rintro e w1 ⟨rfl, h1⟩) | (first | (go_at_call 46; refine (refname_any _ _).mono ?_; rintro e w1 ⟨rfl, rfl⟩)) | (go_at_call 47; (with_reducible refine (resc_1 (by assumption)).mono ?_); rintro e w1 ⟨rfl, h1⟩; have k1 := h1.st.cell1; have k2 := h1.st.free1; have h2 := h1.advN 1 hN (u := ((xs.length - r.length : Nat) : Int) + 1) (by omega)) | (go_at_call 48; (with_reducible refine (rnames_0 h2).mono ?_); rintro e w1 ⟨rfl, h1⟩) | (go_at_call 49; (with_reducible refine (rname_any h1).mono ?_); rintro e w1 ⟨rfl, h1⟩; have hc := h1.res hgo))
     all_goals refine bodyPost_ret (v := Tok.val ({ kind := 4, text := runesBytes (nm (dp 1 r)).1, id := nbg (dp 1 r) 0 })) ?_ rfl ⟨by rw [HT.out], by rw [HT.out]; exact h1.wrote h _ _ _ _ _ _⟩
     all_goals simp [results, Tryz.results29, go_sem, hc, Tok.val]
end
end Go.Proofs.YtclicjiakkcfcaaGreatDoor
