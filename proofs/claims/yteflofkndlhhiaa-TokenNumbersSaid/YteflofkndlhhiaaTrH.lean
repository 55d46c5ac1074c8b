
import Derived.Test.YteflofkndlhhiaaTrF
namespace Go.Proofs.Yteflofkndlhhiaa
open Go.RowKit
theorem Now.advN {T : TypeId} {g : Nat} {v : Value} {xs r : List Int} {w0 w : World} (h : Now T g v xs r w0 w) (n : Nat) (hl : n ≤ r.length) {u : Int} (hu : u = ((xs.length - r.length : Nat) : Int) + n) : Now T g v xs (dp n r) w0 (w.setCell ⟨g, 1, none⟩ (.int .i64 u)) := by
  have h1 := h.st.rlen
  have h2 := dp_len n r
  exact h.go ((dp_suf n r).trans h.st.suf) (by congr 1; omega)
theorem wh_dp (t : List Int) : dp (t.length - (wh t).length) t = wh t := by
  obtain ⟨p, hp⟩ := wh_suf t
  unfold dp
  have : t.length - (wh t).length = p.length := by
    have := congrArg List.length hp
    rw [List.length_append] at this
    omega
  rw [this]
  conv => lhs; rw [← hp]
  simp
section
variable {g : Nat} {v : Value} {xs r : List Int} {w0 w : World}
set_option maxRecDepth 100000 in
set_option maxHeartbeats 3200000 in
theorem rident_any (h : Now 64 g v xs r w0 w) :
    Calls Try.prog 70 #[.pointer (some ⟨g, 0, none⟩)] w fun e w' => e = .returned (identT r).1.val ∧ Now 64 g v xs (identT r).2 w0 w' := by
  have hA := (h.alloc zeroT).st.now
  have hgo := h.st.lt
  have hxl := h.st.len
  have hrl := h.st.rlen'
  have hnl := nm_length r.length r
  have hsz : (runesBytes (nm r).1).size ≤ 1000000000 := by
    have := runesBytes_size_le (nm r).1
    unfold nm at this ⊢
    omega
  by_cases c : ah (nm r).2 0 ≠ 40
  · have e : identT r = ({ kind := 1, text := runesBytes (nm r).1 }, (nm r).2) := by unfold identT; rw [if_pos c]
    rw [e]
    have b1 : (ah (nm r).2 0 != 40) = true := by simp [c]
    clear e c
    go_enter Try.func70, Try.ntmps70
    go_wp2_with (first | (go_at_call 66; (with_reducible refine (rname_any hA).mono ?_); rintro e w1 ⟨rfl, h1⟩) | (go_at_call 39; (with_reducible refine (sign_0 h1).mono ?_); rintro e w1 ⟨rfl, h1⟩; have hc := h1.res hgo))
    refine bodyPost_ret (v := Tok.val { kind := 1, text := runesBytes (nm r).1 }) ?_ rfl ⟨rfl, h1.wrote h _ _ _ _ _ _⟩
    simp [results, Try.results70, go_sem, hc, Tok.val]
  · have b1 : (ah (nm r).2 0 != 40) = false := by simpa using c
    have hl2 : 1 ≤ (nm r).2.length := len_of_ah (n := 0) (by intro e; apply c; rw [e]; decide)
    have hns := (nm_suf' r).length_le
    by_cases c2 : ((lowS (runesBytes (nm r).1)).toList == [117, 114, 108]) = true
    · have e : identT r = urlT (runesBytes (nm r).1) (nm r).2 := by unfold identT; rw [if_neg c, if_pos c2]
      rw [e]
      clear e c
      have hdl := dp_len 1 (nm r).2
      have HD := Lib.hid hdl
      have htl : (dp 1 (nm r).2).length ≤ 100000000 := by omega
      clear hdl
      go_enter Try.func70, Try.ntmps70
      go_wp2_with (first | (go_at_call 66; (with_reducible refine (rname_any hA).mono ?_); rintro e w1 ⟨rfl, h1⟩) | (go_at_call 39; (with_reducible refine (sign_0 h1).mono ?_); rintro e w1 ⟨rfl, h1⟩; have k1 := h1.st.cell1; have k2 := h1.st.free1; have h2 := h1.adv1 hl2) | (go_at_call 24; (with_reducible refine (reflower_any _ _ hsz).mono ?_); rintro e w2 ⟨rfl, hb2⟩; have h3 := h2.below hb2))
      go_loopw [4] (fun kv wr => ∃ k : Nat, kv = .int .i64 k ∧ k ≤ (dp 1 (nm r).2).length ∧ wh (dp k (dp 1 (nm r).2)) = wh (dp 1 (nm r).2) ∧ Now 64 g v xs (dp 1 (nm r).2) (w.alloc zeroT) wr) (fun kv _ => 100000001 - (intOf kv).toNat)
      case atStart => exact ⟨0, rfl, Nat.zero_le _, rfl, h3⟩
      case round =>
        obtain ⟨k, rfl, hk, hkw, hn⟩ := hrel
        have HKW := Lib.hid hkw
        clear hkw h3
        have hah : ah (dp k (dp 1 (nm r).2)) 0 = ah (dp 1 (nm r).2) k := ah_drop _ _ _
        have HAH := Lib.hid hah
        clear hah
        by_cases hw : sWhite (ah (dp 1 (nm r).2) k) = true
        · have hlk := len_of_white hw
          have HW := Lib.hid hw
          go_wp2_with (first | (go_at_call 39; (with_reducible refine (sign_any hn k (by omega)).mono ?_); rintro e w1 ⟨rfl, h1⟩) | (first | (go_at_call 61; refine (refwhite_any _ _).mono ?_; rintro e w1 ⟨rfl, rfl⟩)))
          go_roundw
          case rel => exact ⟨k + 1, by go_num, by omega, by rw [← HKW.out, wh_white (r := dp k (dp 1 (nm r).2)) (by rw [HAH.out]; exact HW.out), dp_dp 1 k], h1⟩
          case measure => simp [intOf]; omega
        · have hw2 : sWhite (ah (dp 1 (nm r).2) k) = false := by simpa using hw
          have HE := Lib.hid (show dp k (dp 1 (nm r).2) = wh (dp 1 (nm r).2) by rw [← HKW.out, wh_else (by rw [HAH.out]; exact hw2)])
          have HL := Lib.hid (show (dp 1 (nm r).2).length - (wh (dp 1 (nm r).2)).length = k by
            have := congrArg List.length HE.out
            rw [dp_len] at this
            omega)
          have HA0 := Lib.hid (show ah (wh (dp 1 (nm r).2)) 0 = ah (dp 1 (nm r).2) k by rw [← HE.out, HAH.out])
          clear hw
          by_cases q1 : ah (dp 1 (nm r).2) k = 34
          · have HQ := Lib.hid (show ah (dp 1 (nm r).2) k = 34 ∨ ah (dp 1 (nm r).2) k = 39 from .inl q1)
            have b34 : (ah (dp 1 (nm r).2) k == 34) = true := by simp [q1]
            clear q1
            by_cases k0 : k = 0
            · have HU := Lib.hid (show urlT (runesBytes (nm r).1) (nm r).2 = ({ kind := 2, text := runesBytes (nm r).1 }, dp (k - 1) (dp 1 (nm r).2)) by unfold urlT; rw [if_pos (by rw [HA0.out]; exact HQ.out), HL.out])
              subst k0
              go_wp2_with (first | (go_at_call 39; (with_reducible refine (sign_0 hn).mono ?_); rintro e w1 ⟨rfl, h1⟩) | (go_at_call 39; (with_reducible refine (sign_0 h1).mono ?_); rintro e w1 ⟨rfl, h1⟩; have k1 := h1.st.cell1; have k2 := h1.st.free1; have h2 := h1.advN (0 - 1) (by omega) (u := ((xs.length - (dp 1 (nm r).2).length : Nat) : Int)) (by omega); have hc := h2.res hgo) | (first | (go_at_call 61; refine (refwhite_any _ _).mono ?_; rintro e w1 ⟨rfl, rfl⟩)))
              refine bodyPost_ret (v := Tok.val { kind := 2, text := runesBytes (nm r).1 }) ?_ rfl ⟨by rw [HU.out], by rw [HU.out]; exact h2.wrote h _ _ _ _ _ _⟩
              simp [results, Try.results70, go_sem, hc, Tok.val]
            · have k1le : 1 ≤ k := by omega
              have HU := Lib.hid (show urlT (runesBytes (nm r).1) (nm r).2 = ({ kind := 2, text := runesBytes (nm r).1 }, dp (k - 1) (dp 1 (nm r).2)) by unfold urlT; rw [if_pos (by rw [HA0.out]; exact HQ.out), HL.out])
              clear k0
              go_wp2_with (first | (go_at_call 39; (with_reducible refine (sign_any hn k (by omega)).mono ?_); rintro e w1 ⟨rfl, h1⟩) | (go_at_call 39; (with_reducible refine (sign_any h1 k (by omega)).mono ?_); rintro e w1 ⟨rfl, h1⟩; have k1 := h1.st.cell1; have k2 := h1.st.free1; have h2 := h1.advN (k - 1) (by omega) (u := ((xs.length - (dp 1 (nm r).2).length : Nat) : Int) + ((k : Int) - 1)) (by omega); have hc := h2.res hgo) | (first | (go_at_call 61; refine (refwhite_any _ _).mono ?_; rintro e w1 ⟨rfl, rfl⟩)))
              refine bodyPost_ret (v := Tok.val { kind := 2, text := runesBytes (nm r).1 }) ?_ rfl ⟨by rw [HU.out], by rw [HU.out]; exact h2.wrote h _ _ _ _ _ _⟩
              simp [results, Try.results70, go_sem, hc, Tok.val]
          have b34 : (ah (dp 1 (nm r).2) k == 34) = false := by simp [q1]
          by_cases q2 : ah (dp 1 (nm r).2) k = 39
          · have HQ := Lib.hid (show ah (dp 1 (nm r).2) k = 34 ∨ ah (dp 1 (nm r).2) k = 39 from .inr q2)
            have b39 : (ah (dp 1 (nm r).2) k == 39) = true := by simp [q2]
            clear q1 q2
            by_cases k0 : k = 0
            · have HU := Lib.hid (show urlT (runesBytes (nm r).1) (nm r).2 = ({ kind := 2, text := runesBytes (nm r).1 }, dp (k - 1) (dp 1 (nm r).2)) by unfold urlT; rw [if_pos (by rw [HA0.out]; exact HQ.out), HL.out])
              subst k0
              go_wp2_with (first | (go_at_call 39; (with_reducible refine (sign_0 hn).mono ?_); rintro e w1 ⟨rfl, h1⟩) | (go_at_call 39; (with_reducible refine (sign_0 h1).mono ?_); rintro e w1 ⟨rfl, h1⟩; have k1 := h1.st.cell1; have k2 := h1.st.free1; have h2 := h1.advN (0 - 1) (by omega) (u := ((xs.length - (dp 1 (nm r).2).length : Nat) : Int)) (by omega); have hc := h2.res hgo) | (first | (go_at_call 61; refine (refwhite_any _ _).mono ?_; rintro e w1 ⟨rfl, rfl⟩)))
              refine bodyPost_ret (v := Tok.val { kind := 2, text := runesBytes (nm r).1 }) ?_ rfl ⟨by rw [HU.out], by rw [HU.out]; exact h2.wrote h _ _ _ _ _ _⟩
              simp [results, Try.results70, go_sem, hc, Tok.val]
            · have k1le : 1 ≤ k := by omega
              have HU := Lib.hid (show urlT (runesBytes (nm r).1) (nm r).2 = ({ kind := 2, text := runesBytes (nm r).1 }, dp (k - 1) (dp 1 (nm r).2)) by unfold urlT; rw [if_pos (by rw [HA0.out]; exact HQ.out), HL.out])
              clear k0
              go_wp2_with (first | (go_at_call 39; (with_reducible refine (sign_any hn k (by omega)).mono ?_); rintro e w1 ⟨rfl, h1⟩) | (go_at_call 39; (with_reducible refine (sign_any h1 k (by omega)).mono ?_); rintro e w1 ⟨rfl, h1⟩; have k1 := h1.st.cell1; have k2 := h1.st.free1; have h2 := h1.advN (k - 1) (by omega) (u := ((xs.length - (dp 1 (nm r).2).length : Nat) : Int) + ((k : Int) - 1)) (by omega); have hc := h2.res hgo) | (first | (go_at_call 61; refine (refwhite_any _ _).mono ?_; rintro e w1 ⟨rfl, rfl⟩)))
              refine bodyPost_ret (v := Tok.val { kind := 2, text := runesBytes (nm r).1 }) ?_ rfl ⟨by rw [HU.out], by rw [HU.out]; exact h2.wrote h _ _ _ _ _ _⟩
              simp [results, Try.results70, go_sem, hc, Tok.val]
          · have HU := Lib.hid (show urlT (runesBytes (nm r).1) (nm r).2 = (tokQ 7 8 (adr (wh (dp 1 (nm r).2))), (adr (wh (dp 1 (nm r).2))).2.2) by unfold urlT; rw [if_neg (by rw [HA0.out]; intro hh; rcases hh with hh | hh; exact q1 hh; exact q2 hh)])
            have b39 : (ah (dp 1 (nm r).2) k == 39) = false := by simp [q2]
            clear q1 q2
            go_wp2_with (first | (go_at_call 39; (with_reducible refine (sign_any hn k (by omega)).mono ?_); rintro e w1 ⟨rfl, h1⟩) | (go_at_call 39; (with_reducible refine (sign_any h1 k (by omega)).mono ?_); rintro e w1 ⟨rfl, h1⟩) | (first | (go_at_call 61; refine (refwhite_any _ _).mono ?_; rintro e w1 ⟨rfl, rfl⟩)) | (go_at_call 89; (with_reducible refine (rurl_any h1).mono ?_); rintro e w1 ⟨rfl, h1⟩; have hc := h1.res hgo; simp only [Tok.val]))
            refine bodyPost_ret (v := Tok.val (tokQ 7 8 (adr (wh (dp 1 (nm r).2))))) ?_ rfl ⟨by rw [HU.out], by rw [HU.out]; exact h1.wrote h _ _ _ _ _ _⟩
            simp [results, Try.results70, go_sem, hc, Tok.val]
    · have e : identT r = ({ kind := 2, text := runesBytes (nm r).1 }, dp 1 (nm r).2) := by unfold identT; rw [if_neg c, if_neg c2]
      rw [e]
      clear e c
      have c3 : ((lowS (runesBytes (nm r).1)).toList == [117, 114, 108]) = false := by simpa using c2
      clear c2
      go_enter Try.func70, Try.ntmps70
      go_wp2_with (first | (go_at_call 66; (with_reducible refine (rname_any hA).mono ?_); rintro e w1 ⟨rfl, h1⟩) | (go_at_call 39; (with_reducible refine (sign_0 h1).mono ?_); rintro e w1 ⟨rfl, h1⟩; have k1 := h1.st.cell1; have k2 := h1.st.free1; have h2 := h1.adv1 hl2) | (go_at_call 24; (with_reducible refine (reflower_any _ _ hsz).mono ?_); rintro e w2 ⟨rfl, hb2⟩; have h3 := h2.below hb2; have hc := h3.res hgo))
      refine bodyPost_ret (v := Tok.val { kind := 2, text := runesBytes (nm r).1 }) ?_ rfl ⟨rfl, h3.wrote h _ _ _ _ _ _⟩
      simp [results, Try.results70, go_sem, hc, Tok.val]
end
end Go.Proofs.Yteflofkndlhhiaa
namespace Go.Proofs.Yteflofkndlhhiaa
open Go.RowKit
section
variable {g : Nat} {v : Value} {xs r : List Int} {w0 w : World}
set_option maxRecDepth 100000 in
set_option maxHeartbeats 1600000 in
theorem rdelim_any (h : Now 64 g v xs r w0 w) (hl : 1 ≤ r.length) :
    Calls Try.prog 71 #[.pointer (some ⟨g, 0, none⟩)] w fun e w' => e = .returned (Tok.val { kind := 9, text := Utf8.encode (ah r 0) }) ∧ Now 64 g v xs (dp 1 r) w0 w' := by
  have hgo := h.st.lt
  have hws := h.gw.size
  have hxl := h.st.len
  have hrl := h.st.rlen
  have hA := (h.alloc zeroT).st.now
  have hZ := TokB.zero w
  go_enter Try.func71, Try.ntmps71
  go_wp2_with (go_at_call 39; (with_reducible refine (sign_0 hA).mono ?_); rintro e w1 ⟨rfl, h1⟩)
  refine (refput_any _ _).mono ?_
  rintro e w2 ⟨rfl, hb2⟩
  have h2 := h1.below hb2
  have hs2 := h2.gw.size
  have hg4 : w.heap.size < w2.heap.size := by simp at hs2; omega
  have hB0 : Now 64 g v xs r w0 (w2.alloc (.cells #[.int .i64 9, .string (Utf8.encode (ah r 0)), .int .i64 0, .bool false, .bool false, .bool false] 33)) := (h2.since (h.alloc zeroT)).alloc _
  have hZ1 := (hZ.keep h2 hgo).alloc (.cells #[.int .i64 9, .string (Utf8.encode (ah r 0)), .int .i64 0, .bool false, .bool false, .bool false] 33)
  have hT : TokB w2.heap.size { kind := 9, text := Utf8.encode (ah r 0) } (w2.alloc (.cells #[.int .i64 9, .string (Utf8.encode (ah r 0)), .int .i64 0, .bool false, .bool false, .bool false] 33)) := heap_alloc_self _ _
  have k1 := hB0.st.cell1
  have k2 := hB0.st.free1
  have hadv := hB0.adv1 hl
  have hc4 := (hT.other (p := ⟨g, 1, none⟩) (by show w2.heap.size ≠ g; omega) (.int .i64 (((xs.length - r.length : Nat) : Int) + 1))).cells
  have hcz := (hZ1.other (p := ⟨g, 1, none⟩) (by show w.heap.size ≠ g; omega) (.int .i64 (((xs.length - r.length : Nat) : Int) + 1))).cells
  go_wp2
  refine bodyPost_ret (v := Tok.val { kind := 9, text := Utf8.encode (ah r 0) }) ?_ rfl ⟨rfl, ?_⟩
  · simp [results, Try.results71, go_sem, hcz, Tok.val]
  · exact hadv.put6 hws _ _ _ _ _ _
end
end Go.Proofs.Yteflofkndlhhiaa
