import Derived.Test.YtclicjiakkcfcaaGreatDoorTrA
set_option maxRecDepth 100000
set_option maxHeartbeats 3200000
namespace Go.Proofs.YtclicjiakkcfcaaGreatDoor
open Go.RowKit
section
variable {g : Nat} {v : Value} {xs r : List Int} {w0 w : World}
theorem rbad_any (h : Now 101 g v xs r w0 w) :
    Calls Tryz.prog 84 #[.pointer (some ⟨g, 0, none⟩)] w fun e w' => e = .returned (Tok.val { kind := 8 }) ∧ Now 101 g v xs (badT r) w0 w' := by
  have hA := (h.alloc zeroT).st.now
  have hgo := h.st.lt
  have hxl := h.st.len
  go_enter Tryz.func84, Tryz.ntmps84
  go_wp2
  go_loopw [] (fun wr => ∃ q, badT q = badT r ∧ Now 101 g v xs q (w.alloc zeroT) wr) (fun wr => left g xs.length wr)
  case atStart => exact ⟨r, rfl, hA⟩
  case round =>
   obtain ⟨q, hq, hn⟩ := hrel
   clear hA
   have HQ := Lib.hid hq
   clear hq
   have hql := hn.st.rlen
   by_cases c1 : q.isEmpty = true
   · have hX : badT r = [] := by rw [← HQ.out]; unfold badT; rw [dif_pos c1]
     have HX := Lib.hid hX
     obtain rfl : q = [] := by simpa using c1
     have ha : (ah [] 0 : Int) < 0 := by decide
     have ha2 : (ah [] 0 == 41) = false := by decide
     clear hX c1
     go_wp2_with (first | (go_at_call 28; (with_reducible refine (sign_0 hn).mono ?_); rintro e w1 ⟨rfl, h1⟩) | (go_at_call 28; (with_reducible refine (sign_0 h1).mono ?_); rintro e w1 ⟨rfl, h1⟩; have hc := h1.res hgo))
     refine bodyPost_ret (v := Tok.val { kind := 8 }) ?_ rfl ⟨rfl, by rw [HX.out]; exact h1.wrote h _ _ _ _ _ _⟩
     simp [results, Tryz.results84, go_sem, hc, Tok.val]
   · have hlq : 1 ≤ q.length := ne_len c1
     have hdl := dp_lt c1
     have hok := (hn.st.ah_ok (n := 0) (by omega)).1
     by_cases c2 : ah q 0 = 41
     · have HX := Lib.hid (show badT r = dp 1 q by rw [← HQ.out]; unfold badT; rw [dif_neg c1, if_pos c2])
       have b1 : (ah q 0 == 41) = true := by simp [c2]
       have b2 : (ah q 0 != 41) = false := by simp [c2]
       clear c2 c1
       go_wp2_with (first | (go_at_call 28; (with_reducible refine (sign_0 hn).mono ?_); rintro e w1 ⟨rfl, h1⟩) | (go_at_call 28; (with_reducible refine (sign_0 h1).mono ?_); rintro e w1 ⟨rfl, h1⟩; have hc := (h1.adv1 hlq).res hgo; have k1 := h1.st.cell1; have k2 := h1.st.free1))
       refine bodyPost_ret (v := Tok.val { kind := 8 }) ?_ rfl ⟨rfl, by rw [HX.out]; exact (h1.adv1 hlq).wrote h _ _ _ _ _ _⟩
       simp [results, Tryz.results84, go_sem, hc, Tok.val]
     · have b1 : (ah q 0 != 41) = true := by simp [c2]
       by_cases c3 : esc q 0 = true
       · have HX := Lib.hid (show badT (escT (dp 1 q)).2 = badT r by rw [← HQ.out]; conv => rhs; unfold badT
                                                                     rw [dif_neg c1, if_neg c2, if_pos c3])
         have hll := escT_lt c1
         clear c2 c1
         go_wp2_with (first | (go_at_call 28; (with_reducible refine (sign_0 hn).mono ?_); rintro e w1 ⟨rfl, h1⟩) | (go_at_call 28; (with_reducible refine (sign_0 h1).mono ?_); rintro e w1 ⟨rfl, h1⟩) | (go_at_call 47; (with_reducible refine (resc_0 h1).mono ?_); rintro e w1 ⟨rfl, h1⟩; have k1 := h1.st.cell1; have k2 := h1.st.free1; have h2 := h1.adv1 hlq) | (go_at_call 69; (with_reducible refine (rescaped_any h2).mono ?_); rintro e w1 ⟨rfl, h3⟩))
         go_roundw
         case rel => exact ⟨_, HX.out, h3⟩
         case measure => rw [h3.left, hn.left]; omega
       · have HX := Lib.hid (show badT (dp 1 q) = badT r by rw [← HQ.out]; conv => rhs; unfold badT
                                                            rw [dif_neg c1, if_neg c2, if_neg c3])
         have b3 : esc q 0 = false := by simpa using c3
         clear c2 c1 c3
         go_wp2_with (first | (go_at_call 28; (with_reducible refine (sign_0 hn).mono ?_); rintro e w1 ⟨rfl, h1⟩) | (go_at_call 28; (with_reducible refine (sign_0 h1).mono ?_); rintro e w1 ⟨rfl, h1⟩) | (go_at_call 47; (with_reducible refine (resc_0 h1).mono ?_); rintro e w1 ⟨rfl, h1⟩; have k1 := h1.st.cell1; have k2 := h1.st.free1; have h2 := h1.adv1 hlq))
         go_roundw
         case rel => exact ⟨_, HX.out, h2⟩
         case measure => rw [h2.left, hn.left]; omega
end
theorem Now.adv2 {T : TypeId} {g : Nat} {v : Value} {xs r : List Int} {w0 w : World} (h : Now T g v xs r w0 w) (hl : 2 ≤ r.length) : Now T g v xs (dp 2 r) w0 (w.setCell ⟨g, 1, none⟩ (.int .i64 (((xs.length - r.length : Nat) : Int) + 2))) := by
 have h1 := h.st.rlen
 have h2 := dp_len 2 r
 exact h.go ((dp_suf 2 r).trans h.st.suf) (by congr 1; omega)
section
variable {g : Nat} {v : Value} {xs r : List Int} {w0 w : World}
theorem rquoted_any (h : Now 101 g v xs r w0 w) (Q : Int) :
    Calls Tryz.prog 45 #[.pointer (some ⟨g, 0, none⟩), .int .i32 Q] w fun e w' => e = .returned (tokQ 5 6 (qt Q r)).val ∧ Now 101 g v xs (qt Q r).2.2 w0 w' := by
  have hA := (h.alloc zeroT).st.now
  have hgo := h.st.lt
  have hrl := h.st.rlen'
  have hxl := h.st.len
  have hinv : TxtInv (qt Q) (qt Q r) r.length [] r := ⟨rfl, rfl, rfl, by simp⟩
  go_enter Tryz.func45, Tryz.ntmps45
  go_wp2
  go_loopw [5, 6] (fun tv _ wr => ∃ out q, TxtInv (qt Q) (qt Q r) r.length out q ∧ tv = .string (runesBytes out) ∧ Now 101 g v xs q (w.alloc zeroT) wr) (fun _ _ wr => left g xs.length wr)
  case atStart => exact ⟨[], r, hinv, rfl, hA⟩
  case round =>
   obtain ⟨out, q, hI, rfl, hn⟩ := hrel
   clear hA hinv
   have hol : out.length ≤ 100000000 := by have := hI.len; omega
   have hql := hn.st.rlen
   by_cases c0 : q.isEmpty = true
   · have HX := Lib.hid (hI.good (q' := []) (by unfold qt; rw [dif_pos c0]))
     obtain rfl : q = [] := by simpa using c0
     have ha : (ah [] 0 : Int) < 0 := by decide
     clear c0 hI
     go_wp2_with (go_at_call 28; (with_reducible refine (sign_0 hn).mono ?_); rintro e w1 ⟨rfl, h1⟩; have hc := h1.res hgo)
     refine bodyPost_ret (v := Tok.val (tokQ 5 6 (true, out, []))) ?_ rfl ⟨by rw [HX.out], by rw [HX.out]; exact h1.wrote h _ _ _ _ _ _⟩
     simp [results, Tryz.results45, go_sem, hc, Tok.val, tokQ]
   · have hlq : 1 ≤ q.length := ne_len c0
     have hok := (hn.st.ah_ok (n := 0) (by omega)).1
     have hnn : ¬ ah q 0 < 0 := by omega
     by_cases c1 : ah q 0 = Q
     · have HX := Lib.hid (hI.good (q' := dp 1 q) (by unfold qt; rw [dif_neg c0, if_pos c1]))
       have b1 : (ah q 0 == Q) = true := by simp [c1]
       clear c0 c1 hI
       go_wp2_with (go_at_call 28; (with_reducible refine (sign_0 hn).mono ?_); rintro e w1 ⟨rfl, h1⟩; have k1 := h1.st.cell1; have k2 := h1.st.free1; have h2 := h1.adv1 hlq; have hc := h2.res hgo)
       refine bodyPost_ret (v := Tok.val (tokQ 5 6 (true, out, dp 1 q))) ?_ rfl ⟨by rw [HX.out], by rw [HX.out]; exact h2.wrote h _ _ _ _ _ _⟩
       simp [results, Tryz.results45, go_sem, hc, Tok.val, tokQ]
     · have b1 : (ah q 0 == Q) = false := by simp [c1]
       by_cases c2 : ah q 0 = 10
       · have HX := Lib.hid (hI.ill (q' := q) (by unfold qt; rw [dif_neg c0, if_neg c1, if_pos c2]))
         have b2 : (ah q 0 == 10) = true := by simp [c2]
         clear c0 c1 hI c2
         go_wp2_with (go_at_call 28; (with_reducible refine (sign_0 hn).mono ?_); rintro e w1 ⟨rfl, h1⟩; have hc := h1.res hgo)
         refine bodyPost_ret (v := Tok.val (tokQ 5 6 (false, out, q))) ?_ rfl ⟨by rw [HX.out], by rw [HX.out]; exact h1.wrote h _ _ _ _ _ _⟩
         simp [results, Tryz.results45, go_sem, hc, Tok.val, tokQ]
       · have b2 : (ah q 0 == 10) = false := by simp [c2]
         by_cases c3 : ah q 0 ≠ 92
         · have HI := Lib.hid (hI.push (x := ah q 0) (q' := dp 1 q) (by conv => lhs; unfold qt
                                                                        rw [dif_neg c0, if_neg c1, if_neg c2, if_pos c3]) (dp_lt c0))
           have b3 : (ah q 0 == 92) = false := by simpa using c3
           have z1 := putFit out (ah q 0) hol
           clear c0 c1 c2 c3 hI
           go_wp2_with (first | (go_at_call 28; (with_reducible refine (sign_0 hn).mono ?_); rintro e w1 ⟨rfl, h1⟩) | (go_at_call 43; (with_reducible refine (refput_any _ _).mono ?_); rintro e w2 ⟨rfl, hb2⟩; have h3 := h1.below hb2; have k1 := h3.st.cell1; have k2 := h3.st.free1; have h2 := h3.adv1 hlq))
           go_roundw
           case rel => exact ⟨_, _, HI.out, by rw [runesBytes_snoc], h2⟩
           case measure => rw [h2.left, hn.left, dp_len]; omega
         · have b3 : (ah q 0 == 92) = true := by simpa using c3
           by_cases c4 : q.length ≤ 1
           · have HI := Lib.hid (hI.same (q' := dp 1 q) (by
              have he : (dp 1 q).isEmpty = true := by
               have : (dp 1 q).length = 0 := by rw [dp_len]; omega
               simpa using this
              unfold qt
              rw [dif_neg c0, if_neg c1, if_neg c2, if_neg c3, if_pos c4, dif_pos he]) (by rw [dp_len]; omega))
             have a1 : ah q 1 = -1 := ah_end c4
             have b4 : ah q 1 < 0 := by omega
             clear c0 c1 c2 c3 hI a1
             go_wp2_with (first | (go_at_call 28; (with_reducible refine (sign_0 hn).mono ?_); rintro e w1 ⟨rfl, h1⟩) | (go_at_call 28; (with_reducible refine (sign_1 h1).mono ?_); rintro e w1 ⟨rfl, h1⟩; have k1 := h1.st.cell1; have k2 := h1.st.free1; have h2 := h1.adv1 hlq))
             go_roundw
             case rel => exact ⟨_, _, HI.out, rfl, h2⟩
             case measure => rw [h2.left, hn.left, dp_len]; omega
           · have hok1 := (hn.st.ah_ok (n := 1) (by omega)).1
             have hn1 : ¬ ah q 1 < 0 := by omega
             by_cases c5 : esc q 0 = true
             · have HI := Lib.hid (hI.push (x := (escT (dp 1 q)).1) (q' := (escT (dp 1 q)).2) (by
                conv => lhs; unfold qt
                rw [dif_neg c0, if_neg c1, if_neg c2, if_neg c3, if_neg c4, if_pos c5]) (escT_lt c0))
               have hll := escT_lt c0
               have b5 : (ah q 1 == 10) = false := by unfold esc at c5; simp at c5; simp [c5.2]
               have z1 := putFit out (escT (dp 1 q)).1 hol
               clear c0 c1 c2 c3 hI c5
               go_wp2_with (first | (go_at_call 28; (with_reducible refine (sign_0 hn).mono ?_); rintro e w1 ⟨rfl, h1⟩) | (go_at_call 28; (with_reducible refine (sign_1 h1).mono ?_); rintro e w1 ⟨rfl, h1⟩; have k1 := h1.st.cell1; have k2 := h1.st.free1; have h2 := h1.adv1 hlq) | (go_at_call 69; (with_reducible refine (rescaped_any h2).mono ?_); rintro e w1 ⟨rfl, h3⟩) | (go_at_call 43; (with_reducible refine (refput_any _ _).mono ?_); rintro e w2 ⟨rfl, hb2⟩; have h4 := h3.below hb2))
               go_roundw
               case rel => exact ⟨_, _, HI.out, by rw [runesBytes_snoc], h4⟩
               case measure => rw [h4.left, hn.left]; omega
             · have HI := Lib.hid (hI.same (q' := dp 2 q) (by
                conv => lhs; unfold qt
                rw [dif_neg c0, if_neg c1, if_neg c2, if_neg c3, if_neg c4, if_neg c5]) (by rw [dp_len]; omega))
               have b5 : (ah q 1 == 10) = true := by
                have h92 : ah q 0 = 92 := by simpa using c3
                unfold esc at c5
                simpa [h92] using c5
               have hl2 : 2 ≤ q.length := by omega
               clear c0 c1 c2 c3 hI c5
               go_wp2_with (first | (go_at_call 28; (with_reducible refine (sign_0 hn).mono ?_); rintro e w1 ⟨rfl, h1⟩) | (go_at_call 28; (with_reducible refine (sign_1 h1).mono ?_); rintro e w1 ⟨rfl, h1⟩; have k1 := h1.st.cell1; have k2 := h1.st.free1; have h2 := h1.adv2 hl2))
               go_roundw
               case rel => exact ⟨_, _, HI.out, rfl, h2⟩
               case measure => rw [h2.left, hn.left, dp_len]; omega
end
def spoil2 (r : Int) : Bool := decide (r = 34 ∨ r = 39 ∨ r = 40 ∨ r = 11 ∨ r = 127 ∨ (0 ≤ r ∧ r ≤ 8) ∨ (14 ≤ r ∧ r ≤ 31))
theorem rspoil_any (a : Int) (w : World) :
    Calls Tryz.prog 85 #[.int .i32 a] w fun e w' => e = .returned (.bool (spoil2 a)) ∧ w = w' := by
  go_enter Tryz.func85, Tryz.ntmps85
  go_wp2
  all_goals go_ret
  all_goals exact ⟨ret_bool (by grind [spoil2]), rfl⟩
section
variable {g : Nat} {v : Value} {xs r : List Int} {w0 w : World}
theorem rurl_any (h : Now 101 g v xs r w0 w) :
    Calls Tryz.prog 74 #[.pointer (some ⟨g, 0, none⟩)] w fun e w' => e = .returned (tokQ 7 8 (adr (wh r))).val ∧ Now 101 g v xs (adr (wh r)).2.2 w0 w' := by
  have hA := (h.alloc zeroT).st.now
  have hgo := h.st.lt
  have hrl := h.st.rlen'
  have hxl := h.st.len
  have hwl := wh_len r
  go_enter Tryz.func74, Tryz.ntmps74
  go_wp2
  go_loopw [] (fun wr => ∃ q, wh q = wh r ∧ Now 101 g v xs q (w.alloc zeroT) wr) (fun wr => left g xs.length wr)
  case atStart => exact ⟨r, rfl, hA⟩
  case round =>
   obtain ⟨p, hp, hnp⟩ := hrel
   clear hA
   have HP := Lib.hid hp
   clear hp
   have hpl := hnp.st.rlen
   by_cases hw : sWhite (ah p 0) = true
   · have hlq : 1 ≤ p.length := len_of_white hw
     have HW := Lib.hid hw
     go_wp2_with (first | (go_at_call 28; (with_reducible refine (sign_0 hnp).mono ?_); rintro e w1 ⟨rfl, h1⟩; have k1 := h1.st.cell1; have k2 := h1.st.free1; have h2 := h1.adv1 hlq) | (first | (go_at_call 44; refine (refwhite_any _ _).mono ?_; rintro e w1 ⟨rfl, rfl⟩)))
     go_roundw
     case rel => exact ⟨_, by rw [← wh_white HW.out, HP.out], h2⟩
     case measure => rw [h2.left, hnp.left, dp_len]; omega
   · have hw2 : sWhite (ah p 0) = false := by simpa using hw
     have hpe : p = wh r := by rw [← HP.out, wh_else hw2]
     subst hpe
     clear hw
     go_wp2_with (first | (go_at_call 28; (with_reducible refine (sign_0 hnp).mono ?_); rintro e w1 ⟨rfl, h1⟩) | (first | (go_at_call 44; refine (refwhite_any _ _).mono ?_; rintro e w1 ⟨rfl, rfl⟩)))
     clear hw2
     have hinv : TxtInv adr (adr (wh r)) (wh r).length [] (wh r) := ⟨rfl, rfl, rfl, by simp⟩
     go_loopw [3, 4] (fun tv _ wr => ∃ out q, TxtInv adr (adr (wh r)) (wh r).length out q ∧ tv = .string (runesBytes out) ∧ Now 101 g v xs q (w.alloc zeroT) wr) (fun _ _ wr => left g xs.length wr)
     case atStart => exact ⟨[], wh r, hinv, rfl, h1⟩
     case round =>
      obtain ⟨out, q, hI, rfl, hn⟩ := hrel
      clear hinv h1 hnp
      have hol : out.length ≤ 100000000 := by have := hI.len; omega
      have hql := hn.st.rlen
      by_cases c0 : q.isEmpty = true
      · have HX := Lib.hid (hI.good (q' := []) (by unfold adr; rw [dif_pos c0]))
        obtain rfl : q = [] := by simpa using c0
        have ha : (ah [] 0 : Int) < 0 := by decide
        have ha2 : (ah [] 0 == 41) = false := by decide
        clear c0 hI
        go_wp2_with (go_at_call 28; (with_reducible refine (sign_0 hn).mono ?_); rintro e w1 ⟨rfl, h1⟩; have hc := h1.res hgo)
        refine bodyPost_ret (v := Tok.val (tokQ 7 8 (true, out, []))) ?_ rfl ⟨by rw [HX.out], by rw [HX.out]; exact h1.wrote h _ _ _ _ _ _⟩
        simp [results, Tryz.results74, go_sem, hc, Tok.val, tokQ]
      · have hlq : 1 ≤ q.length := ne_len c0
        have hok := (hn.st.ah_ok (n := 0) (by omega)).1
        have hnn : ¬ ah q 0 < 0 := by omega
        by_cases c1 : ah q 0 = 41
        · have HX := Lib.hid (hI.good (q' := dp 1 q) (by unfold adr; rw [dif_neg c0, if_pos c1]))
          have b1 : (ah q 0 == 41) = true := by simp [c1]
          clear c0 c1 hI
          go_wp2_with (go_at_call 28; (with_reducible refine (sign_0 hn).mono ?_); rintro e w1 ⟨rfl, h1⟩; have k1 := h1.st.cell1; have k2 := h1.st.free1; have h2 := h1.adv1 hlq; have hc := h2.res hgo)
          refine bodyPost_ret (v := Tok.val (tokQ 7 8 (true, out, dp 1 q))) ?_ rfl ⟨by rw [HX.out], by rw [HX.out]; exact h2.wrote h _ _ _ _ _ _⟩
          simp [results, Tryz.results74, go_sem, hc, Tok.val, tokQ]
        · have b1 : (ah q 0 == 41) = false := by simp [c1]
          by_cases c3 : esc q 0 = true
          · have HI := Lib.hid (hI.push (x := (escT (dp 1 q)).1) (q' := (escT (dp 1 q)).2) (by
             conv => lhs; unfold adr
             rw [dif_neg c0, if_neg c1, if_pos c3]) (escT_lt c0))
            have hll := escT_lt c0
            have h92 : ah q 0 = 92 := by unfold esc at c3; simp at c3; exact c3.1
            have b2 : (ah q 0 == 92) = true := by simp [h92]
            have b3 : sWhite (ah q 0) = false := by rw [h92]; decide
            have b4 : spoil2 (ah q 0) = false := by rw [h92]; decide
            have z1 := putFit out (escT (dp 1 q)).1 hol
            clear c0 c1 hI h92
            go_wp2_with (first | (go_at_call 28; (with_reducible refine (sign_0 hn).mono ?_); rintro e w1 ⟨rfl, h1⟩) | (first | (go_at_call 44; refine (refwhite_any _ _).mono ?_; rintro e w1 ⟨rfl, rfl⟩)) | (go_at_call 85; (with_reducible refine (rspoil_any _ _).mono ?_); rintro e w2 ⟨rfl, rfl⟩) | (go_at_call 47; (with_reducible refine (resc_0 h1).mono ?_); rintro e w1 ⟨rfl, h1⟩; have k1 := h1.st.cell1; have k2 := h1.st.free1; have h2 := h1.adv1 hlq) | (go_at_call 69; (with_reducible refine (rescaped_any h2).mono ?_); rintro e w1 ⟨rfl, h4⟩) | (go_at_call 43; (with_reducible refine (refput_any _ _).mono ?_); rintro e w2 ⟨rfl, hb2⟩; have h3 := h4.below hb2))
            go_roundw
            case rel => exact ⟨_, _, HI.out, by rw [runesBytes_snoc], h3⟩
            case measure => rw [h3.left, hn.left]; omega
          · have b3 : esc q 0 = false := by simpa using c3
            by_cases c4 : sWhite (ah q 0) = true
            · have HE := Lib.hid (show adr q = (if (wh q).isEmpty then (true, [], []) else if ah (wh q) 0 = 41 then (true, [], dp 1 (wh q)) else (false, [], badT (wh q))) by
               unfold adr; rw [dif_neg c0, if_neg c1, if_neg c3, if_pos c4])
              have HII := Lib.hid hI
              have hqw := wh_len q
              have HWW := Lib.hid (wh_white c4)
              clear c0 c1 c3 hI
              obtain ⟨wo, rfl⟩ : ∃ wo : World, wo = wr := ⟨_, rfl⟩
              go_wp2_with (first | (go_at_call 28; (with_reducible refine (sign_0 hn).mono ?_); rintro e w1 ⟨rfl, h1⟩) | (first | (go_at_call 44; refine (refwhite_any _ _).mono ?_; rintro e w1 ⟨rfl, rfl⟩)))
              have hwd := wh_len (dp 1 q)
              have hdl := dp_len 1 q
              have hlt : (wh q).length < q.length := by rw [HWW.out]; omega
              go_loopw [] (fun wr => ∃ p, wh p = wh q ∧ p.length ≤ q.length ∧ Now 101 g v xs p (w.alloc zeroT) wr) (fun wr => left g xs.length wr)
              case atStart => exact ⟨q, rfl, Nat.le_refl _, h1⟩
              case round =>
               obtain ⟨p, hp, hpq, hnp⟩ := hrel
               have HP := Lib.hid hp
               clear hp h1
               have hpl := hnp.st.rlen
               by_cases hw : sWhite (ah p 0) = true
               · have hlp : 1 ≤ p.length := len_of_white hw
                 have HW := Lib.hid hw
                 go_wp2_with (first | (go_at_call 28; (with_reducible refine (sign_0 hnp).mono ?_); rintro e w1 ⟨rfl, h1⟩; have k1 := h1.st.cell1; have k2 := h1.st.free1; have h2 := h1.adv1 hlp) | (first | (go_at_call 44; refine (refwhite_any _ _).mono ?_; rintro e w1 ⟨rfl, rfl⟩)))
                 go_roundw
                 case rel => exact ⟨_, by rw [← wh_white HW.out, HP.out], by rw [dp_len]; omega, h2⟩
                 case measure => rw [h2.left, hnp.left, dp_len]; omega
               · have hw2 : sWhite (ah p 0) = false := by simpa using hw
                 have hpe : p = wh q := by rw [← HP.out, wh_else hw2]
                 subst hpe
                 clear hw
                 by_cases d0 : (wh q).isEmpty = true
                 · have hne : wh q = [] := by simpa using d0
                   have a0 : ah (wh q) 0 < 0 := by rw [hne]; decide
                   have HS := Lib.hid (HII.out.same (q' := wh q) (by rw [HE.out, if_pos d0]; unfold adr; rw [dif_pos d0]) (wh_len q))
                   clear d0 hne
                   go_wp2_with (first | (go_at_call 28; (with_reducible refine (sign_0 hnp).mono ?_); rintro e w1 ⟨rfl, h1⟩) | (go_at_call 28; (with_reducible refine (sign_0 h1).mono ?_); rintro e w1 ⟨rfl, h1⟩) | (first | (go_at_call 44; refine (refwhite_any _ _).mono ?_; rintro e w1 ⟨rfl, rfl⟩)))
                   go_roundw
                   case rel => exact ⟨_, _, HS.out, rfl, h1⟩
                   case measure => rw [h1.left, hn.left]; omega
                 · have hlp : 1 ≤ (wh q).length := ne_len d0
                   have hok2 := (hnp.st.ah_ok (n := 0) (by omega)).1
                   have hnn2 : ¬ ah (wh q) 0 < 0 := by omega
                   by_cases d1 : ah (wh q) 0 = 41
                   · have HS := Lib.hid (HII.out.same (q' := wh q) (by rw [HE.out, if_neg d0, if_pos d1]; unfold adr; rw [dif_neg d0, if_pos d1]) (wh_len q))
                     have e1 : (ah (wh q) 0 == 41) = true := by simp [d1]
                     clear d0 d1
                     go_wp2_with (first | (go_at_call 28; (with_reducible refine (sign_0 hnp).mono ?_); rintro e w1 ⟨rfl, h1⟩) | (go_at_call 28; (with_reducible refine (sign_0 h1).mono ?_); rintro e w1 ⟨rfl, h1⟩) | (first | (go_at_call 44; refine (refwhite_any _ _).mono ?_; rintro e w1 ⟨rfl, rfl⟩)))
                     go_roundw
                     case rel => exact ⟨_, _, HS.out, rfl, h1⟩
                     case measure => rw [h1.left, hn.left]; omega
                   · have HX := Lib.hid (HII.out.ill (q' := badT (wh q)) (by rw [HE.out, if_neg d0, if_neg d1]))
                     have e1 : (ah (wh q) 0 == 41) = false := by simp [d1]
                     clear d0 d1
                     go_wp2_with (first | (go_at_call 28; (with_reducible refine (sign_0 hnp).mono ?_); rintro e w1 ⟨rfl, h1⟩) | (go_at_call 28; (with_reducible refine (sign_0 h1).mono ?_); rintro e w1 ⟨rfl, h1⟩) | (first | (go_at_call 44; refine (refwhite_any _ _).mono ?_; rintro e w1 ⟨rfl, rfl⟩)) | (go_at_call 84; (with_reducible refine (rbad_any h1).mono ?_); rintro e w1 ⟨rfl, h1⟩; have hc := h1.res hgo; simp only [Tok.val]))
                     refine bodyPost_ret (v := Tok.val (tokQ 7 8 (false, out, badT (wh q)))) ?_ rfl ⟨by rw [HX.out], by rw [HX.out]; exact h1.wrote h _ _ _ _ _ _⟩
                     simp [results, Tryz.results74, go_sem, hc, Tok.val, tokQ]
            · have b4 : sWhite (ah q 0) = false := by simpa using c4
              by_cases c5 : spoil (ah q 0) = true
              · have HX := Lib.hid (hI.ill (q' := badT q) (by unfold adr; rw [dif_neg c0, if_neg c1, if_neg c3, if_neg c4, if_pos c5]))
                by_cases c6 : ah q 0 = 92
                · have b5 : spoil2 (ah q 0) = false := by rw [c6]; decide
                  have b6 : (ah q 0 == 92) = true := by simp [c6]
                  clear c0 c1 c3 c4 c5 c6 hI
                  go_wp2_with (first | (go_at_call 28; (with_reducible refine (sign_0 hn).mono ?_); rintro e w1 ⟨rfl, h1⟩) | (first | (go_at_call 44; refine (refwhite_any _ _).mono ?_; rintro e w1 ⟨rfl, rfl⟩)) | (go_at_call 85; (with_reducible refine (rspoil_any _ _).mono ?_); rintro e w2 ⟨rfl, rfl⟩) | (go_at_call 47; (with_reducible refine (resc_0 h1).mono ?_); rintro e w1 ⟨rfl, h1⟩) | (go_at_call 84; (with_reducible refine (rbad_any h1).mono ?_); rintro e w1 ⟨rfl, h1⟩; have hc := h1.res hgo; simp only [Tok.val]))
                  refine bodyPost_ret (v := Tok.val (tokQ 7 8 (false, out, badT q))) ?_ rfl ⟨by rw [HX.out], by rw [HX.out]; exact h1.wrote h _ _ _ _ _ _⟩
                  simp [results, Tryz.results74, go_sem, hc, Tok.val, tokQ]
                · have b5 : spoil2 (ah q 0) = true := by unfold spoil at c5; unfold spoil2; simp at c5 ⊢; grind
                  clear c0 c1 c3 c4 c5 c6 hI
                  go_wp2_with (first | (go_at_call 28; (with_reducible refine (sign_0 hn).mono ?_); rintro e w1 ⟨rfl, h1⟩) | (first | (go_at_call 44; refine (refwhite_any _ _).mono ?_; rintro e w1 ⟨rfl, rfl⟩)) | (go_at_call 85; (with_reducible refine (rspoil_any _ _).mono ?_); rintro e w2 ⟨rfl, rfl⟩) | (go_at_call 84; (with_reducible refine (rbad_any h1).mono ?_); rintro e w1 ⟨rfl, h1⟩; have hc := h1.res hgo; simp only [Tok.val]))
                  refine bodyPost_ret (v := Tok.val (tokQ 7 8 (false, out, badT q))) ?_ rfl ⟨by rw [HX.out], by rw [HX.out]; exact h1.wrote h _ _ _ _ _ _⟩
                  simp [results, Tryz.results74, go_sem, hc, Tok.val, tokQ]
              · have HI := Lib.hid (hI.push (x := ah q 0) (q' := dp 1 q) (by
                 conv => lhs; unfold adr
                 rw [dif_neg c0, if_neg c1, if_neg c3, if_neg c4, if_neg c5]) (dp_lt c0))
                have b5 : spoil2 (ah q 0) = false := by unfold spoil at c5; unfold spoil2; simp at c5 ⊢; grind
                have b6 : (ah q 0 == 92) = false := by unfold spoil at c5; simp at c5 ⊢; exact c5.2.2.2.1
                have z1 := putFit out (ah q 0) hol
                clear c0 c1 c3 c4 c5 hI
                go_wp2_with (first | (go_at_call 28; (with_reducible refine (sign_0 hn).mono ?_); rintro e w1 ⟨rfl, h1⟩) | (first | (go_at_call 44; refine (refwhite_any _ _).mono ?_; rintro e w1 ⟨rfl, rfl⟩)) | (go_at_call 85; (with_reducible refine (rspoil_any _ _).mono ?_); rintro e w2 ⟨rfl, rfl⟩) | (go_at_call 43; (with_reducible refine (refput_any _ _).mono ?_); rintro e w2 ⟨rfl, hb2⟩; have h3 := h1.below hb2; have k1 := h3.st.cell1; have k2 := h3.st.free1; have h2 := h3.adv1 hlq))
                go_roundw
                case rel => exact ⟨_, _, HI.out, by rw [runesBytes_snoc], h2⟩
                case measure => rw [h2.left, hn.left, dp_len]; omega
end
end Go.Proofs.YtclicjiakkcfcaaGreatDoor
