
import Derived.Test.YtfpgkfpehkelcaaTkK
namespace Go.Proofs.Ytfpgkfpehkelcaa
open Go.RowKit
section
variable {g : Nat} {v : Value} {xs r : List Int} {w0 w : World}
set_option maxRecDepth 100000 in
set_option maxHeartbeats 1600000 in
theorem address_any (h : Now 57 g v xs r w0 w) :
    Calls Try.prog 87 #[.pointer (some ⟨g, 0, none⟩)] w fun e w' => e = .returned (tokQ 7 8 (adr r)).val ∧ Now 57 g v xs (adr r).2.2 w0 w' := by
  obtain ⟨i0, hi, hz0, hz1, hz2⟩ := info_parts info_i32
  have hA := (h.alloc zeroT).st.now
  have hgo := h.st.lt
  have hgB : g < (w.alloc zeroT).heap.size := by simp; omega
  have hrl := h.st.rlen'
  have hinv : TxtInv adr (adr r) r.length [] r := ⟨rfl, rfl, rfl, by simp⟩
  go_enter Try.func87, Try.ntmps87
  go_wp2
  go_loopw [3, 4] (fun tv _ wr => ∃ out q, TxtInv adr (adr r) r.length out q ∧ Txt (w.alloc zeroT).heap.size wr tv out ∧ Now 57 g v xs q (w.alloc zeroT) wr) (fun _ _ wr => left g xs.length wr)
  case atStart => exact ⟨[], r, hinv, Txt.nil _ _, hA⟩
  case round =>
    obtain ⟨out, q, hI, ho, hn⟩ := hrel
    clear hA hinv
    have hol : out.length ≤ 100000000 := by have := hI.len; omega
    have hws := hn.gw.size
    have hnr := hn.st.now
    have HN := Lib.hid hn
    clear hn
    by_cases c0 : q.isEmpty = true
    · have HX := Lib.hid (hI.good (q' := []) (by unfold adr; rw [dif_pos c0]))
      clear hI
      go_wp2_with (go_at_call 93; (with_reducible refine (closed_E hnr c0).mono ?_); rintro e w1 ⟨rfl, h1⟩; have hcv := (ho.keeps h1 hgB).conv; have hc := (h1.since HN.out).res hgo)
      refine bodyPost_ret (v := Tok.val (tokQ 7 8 (true, out, []))) ?_ rfl ⟨by rw [HX.out], by rw [HX.out]; exact (h1.since HN.out).wrote h _ _ _ _ _ _⟩
      simp [results, Try.results87, go_sem, hc, Tok.val, tokQ]
    · have c0' : q.isEmpty = false := by simpa using c0
      have hlq : 1 ≤ q.length := List.length_pos_iff.2 (by simpa using c0)
      have hdl := dp_lt c0
      by_cases c1 : ah q 0 = 41
      · have HX := Lib.hid (hI.good (q' := dp 1 q) (by unfold adr; rw [dif_neg c0, if_pos c1]))
        have C1 := Lib.hid c1
        clear c0 c1 hI
        go_wp2_with (go_at_call 93; (with_reducible refine (closed_41 hnr C1.out).mono ?_); rintro e w1 ⟨rfl, h1⟩; have hcv := (ho.keeps h1 hgB).conv; have hc := (h1.since HN.out).res hgo)
        refine bodyPost_ret (v := Tok.val (tokQ 7 8 (true, out, dp 1 q))) ?_ rfl ⟨by rw [HX.out], by rw [HX.out]; exact (h1.since HN.out).wrote h _ _ _ _ _ _⟩
        simp [results, Try.results87, go_sem, hc, Tok.val, tokQ]
      · have C2 := Lib.hid c1
        by_cases c3 : esc q 0 = true
        · have hP := hI.push (x := (escT (dp 1 q)).1) (q' := (escT (dp 1 q)).2) (by
            conv => lhs; unfold adr
            rw [dif_neg c0, if_neg c1, if_pos c3]) (escT_lt c0)
          have hll := escT_lt c0
          have HI := Lib.hid hP
          have C3 := Lib.hid c3
          clear hP c0 c1 hI
          go_wp2_with (first | (go_at_call 93; (with_reducible refine (closed_N hnr c0' C2.out).mono ?_); rintro e w1 ⟨rfl, h1⟩; have hs1 := h1.gw.size) | (go_at_call 41; (with_reducible refine (ahead_0 (by repeat (first | assumption | refine Now.alloc ?_ _ | refine Now.set ?_ (by simp; omega) _))).mono ?_); rintro e w1 ⟨rfl, h1⟩) | (go_at_call 66; (with_reducible refine (escapes_0 (by repeat (first | assumption | refine Now.alloc ?_ _ | refine Now.set ?_ (by simp; omega) _))).mono ?_); rintro e w1 ⟨rfl, h1⟩) | (go_at_call 67; (with_reducible refine (escape_any (by repeat (first | assumption | refine Now.alloc ?_ _ | refine Now.set ?_ (by simp; omega) _)) hlq).mono ?_); rintro e w1 ⟨rfl, h1⟩; have hs1 := h1.gw.size) | (at_builtin; refine wpList_append_own _ rfl _ _ 44 rfl (w.alloc zeroT).heap.size 21 i0 (.int .i32 0) 1 4 Try.underlying44 hi hz0 hz1 hz2 rfl (by decide) _ _ _ rfl ((ho.keeps h1 hgB).alloc _) ⟨_, 0, none⟩ 1 1 [.int .i32 _] rfl rfl (cell_one_new _ _ _) (fun u hu => by simp at hu; subst hu; rfl) (by unfold maxLen; omega) (by omega) (by simp at hws ⊢; omega) ?_; intro v' w4 ho4 hg4 _))
          obtain ⟨p1, p2⟩ := Txt.push ho HN.out h1 ho4 hg4
          go_roundw
          case rel => exact ⟨_, _, HI.out, p1, p2⟩
          case measure => rw [p2.left, HN.out.left]; omega
        · have b3 : esc q 0 = false := by simpa using c3
          by_cases c4 : sWhite (ah q 0) = true
          · have C4 := Lib.hid c4
            by_cases c5 : (wh q).isEmpty = true
            · have HX := Lib.hid (hI.good (q' := []) (by unfold adr; rw [dif_neg c0, if_neg c1, if_neg c3, if_pos c4, if_pos c5]))
              clear c0 c1 hI c3
              go_wp2_with (first | (go_at_call 93; (with_reducible refine (closed_E h1 c5).mono ?_); rintro e w1 ⟨rfl, h1⟩; have hcv := (ho.keeps h1 hgB).conv; have hc := (h1.since HN.out).res hgo) | (first | (go_at_call 93; (with_reducible refine (closed_N hnr c0' C2.out).mono ?_); rintro e w1 ⟨rfl, h1⟩; have hs1 := h1.gw.size) | (go_at_call 41; (with_reducible refine (ahead_0 (by repeat (first | assumption | refine Now.alloc ?_ _ | refine Now.set ?_ (by simp; omega) _))).mono ?_); rintro e w1 ⟨rfl, h1⟩) | (go_at_call 66; (with_reducible refine (escapes_0 (by repeat (first | assumption | refine Now.alloc ?_ _ | refine Now.set ?_ (by simp; omega) _))).mono ?_); rintro e w1 ⟨rfl, h1⟩) | (go_at_call 42; (with_reducible refine (white_any _ _).mono ?_); rintro e w1 ⟨rfl, rfl⟩) | (go_at_call 43; (with_reducible refine (whiteW_any (by repeat (first | assumption | refine Now.alloc ?_ _ | refine Now.set ?_ (by simp; omega) _))).mono ?_); rintro e w1 ⟨rfl, h1⟩)))
              refine bodyPost_ret (v := Tok.val (tokQ 7 8 (true, out, []))) ?_ rfl ⟨by rw [HX.out], by rw [HX.out]; exact (h1.since HN.out).wrote h _ _ _ _ _ _⟩
              simp [results, Try.results87, go_sem, hc, Tok.val, tokQ]
            · have c5' : (wh q).isEmpty = false := by simpa using c5
              by_cases c6 : ah (wh q) 0 = 41
              · have HX := Lib.hid (hI.good (q' := dp 1 (wh q)) (by unfold adr; rw [dif_neg c0, if_neg c1, if_neg c3, if_pos c4, if_neg c5, if_pos c6]))
                have C6 := Lib.hid c6
                clear c0 c1 hI c3 c6 c5
                go_wp2_with (first | (go_at_call 93; (with_reducible refine (closed_41 h1 C6.out).mono ?_); rintro e w1 ⟨rfl, h1⟩; have hcv := (ho.keeps h1 hgB).conv; have hc := (h1.since HN.out).res hgo) | (first | (go_at_call 93; (with_reducible refine (closed_N hnr c0' C2.out).mono ?_); rintro e w1 ⟨rfl, h1⟩; have hs1 := h1.gw.size) | (go_at_call 41; (with_reducible refine (ahead_0 (by repeat (first | assumption | refine Now.alloc ?_ _ | refine Now.set ?_ (by simp; omega) _))).mono ?_); rintro e w1 ⟨rfl, h1⟩) | (go_at_call 66; (with_reducible refine (escapes_0 (by repeat (first | assumption | refine Now.alloc ?_ _ | refine Now.set ?_ (by simp; omega) _))).mono ?_); rintro e w1 ⟨rfl, h1⟩) | (go_at_call 42; (with_reducible refine (white_any _ _).mono ?_); rintro e w1 ⟨rfl, rfl⟩) | (go_at_call 43; (with_reducible refine (whiteW_any (by repeat (first | assumption | refine Now.alloc ?_ _ | refine Now.set ?_ (by simp; omega) _))).mono ?_); rintro e w1 ⟨rfl, h1⟩)))
                refine bodyPost_ret (v := Tok.val (tokQ 7 8 (true, out, dp 1 (wh q)))) ?_ rfl ⟨by rw [HX.out], by rw [HX.out]; exact (h1.since HN.out).wrote h _ _ _ _ _ _⟩
                simp [results, Try.results87, go_sem, hc, Tok.val, tokQ]
              · have HX := Lib.hid (hI.ill (q' := badT (wh q)) (by unfold adr; rw [dif_neg c0, if_neg c1, if_neg c3, if_pos c4, if_neg c5, if_neg c6]))
                have C6 := Lib.hid c6
                clear c0 c1 hI c3 c6 c5
                go_wp2_with (first | (go_at_call 93; (with_reducible refine (closed_N h1 c5' C6.out).mono ?_); rintro e w1 ⟨rfl, h1⟩) | (first | (go_at_call 93; (with_reducible refine (closed_N hnr c0' C2.out).mono ?_); rintro e w1 ⟨rfl, h1⟩; have hs1 := h1.gw.size) | (go_at_call 41; (with_reducible refine (ahead_0 (by repeat (first | assumption | refine Now.alloc ?_ _ | refine Now.set ?_ (by simp; omega) _))).mono ?_); rintro e w1 ⟨rfl, h1⟩) | (go_at_call 66; (with_reducible refine (escapes_0 (by repeat (first | assumption | refine Now.alloc ?_ _ | refine Now.set ?_ (by simp; omega) _))).mono ?_); rintro e w1 ⟨rfl, h1⟩) | (go_at_call 42; (with_reducible refine (white_any _ _).mono ?_); rintro e w1 ⟨rfl, rfl⟩) | (go_at_call 43; (with_reducible refine (whiteW_any (by repeat (first | assumption | refine Now.alloc ?_ _ | refine Now.set ?_ (by simp; omega) _))).mono ?_); rintro e w1 ⟨rfl, h1⟩) | (go_at_call 94; (with_reducible refine (bad_any (by repeat (first | assumption | refine Now.alloc ?_ _ | refine Now.set ?_ (by simp; omega) _))).mono ?_); rintro e w1 ⟨rfl, h1⟩; have hc := (h1.since HN.out).res hgo; simp only [Tok.val])))
                refine bodyPost_ret (v := Tok.val (tokQ 7 8 (false, out, badT (wh q)))) ?_ rfl ⟨by rw [HX.out], by rw [HX.out]; exact (h1.since HN.out).wrote h _ _ _ _ _ _⟩
                simp [results, Try.results87, go_sem, hc, Tok.val, tokQ]
          · have b4 : sWhite (ah q 0) = false := by simpa using c4
            by_cases c5 : spoil (ah q 0) = true
            · have HX := Lib.hid (hI.ill (q' := badT q) (by unfold adr; rw [dif_neg c0, if_neg c1, if_neg c3, if_neg c4, if_pos c5]))
              clear c0 c1 hI c3 c4
              go_wp2_with (first | (go_at_call 93; (with_reducible refine (closed_N hnr c0' C2.out).mono ?_); rintro e w1 ⟨rfl, h1⟩; have hs1 := h1.gw.size) | (go_at_call 41; (with_reducible refine (ahead_0 (by repeat (first | assumption | refine Now.alloc ?_ _ | refine Now.set ?_ (by simp; omega) _))).mono ?_); rintro e w1 ⟨rfl, h1⟩) | (go_at_call 66; (with_reducible refine (escapes_0 (by repeat (first | assumption | refine Now.alloc ?_ _ | refine Now.set ?_ (by simp; omega) _))).mono ?_); rintro e w1 ⟨rfl, h1⟩) | (go_at_call 42; (with_reducible refine (white_any _ _).mono ?_); rintro e w1 ⟨rfl, rfl⟩) | (go_at_call 95; refine (spoils_any _ _).mono ?_; rintro e w1 ⟨rfl, rfl⟩) | (go_at_call 94; (with_reducible refine (bad_any (by repeat (first | assumption | refine Now.alloc ?_ _ | refine Now.set ?_ (by simp; omega) _))).mono ?_); rintro e w1 ⟨rfl, h1⟩; have hc := (h1.since HN.out).res hgo; simp only [Tok.val]))
              refine bodyPost_ret (v := Tok.val (tokQ 7 8 (false, out, badT q))) ?_ rfl ⟨by rw [HX.out], by rw [HX.out]; exact (h1.since HN.out).wrote h _ _ _ _ _ _⟩
              simp [results, Try.results87, go_sem, hc, Tok.val, tokQ]
            · have b5 : spoil (ah q 0) = false := by simpa using c5
              have hP := hI.push (x := ah q 0) (q' := dp 1 q) (by
                conv => lhs; unfold adr
                rw [dif_neg c0, if_neg c1, if_neg c3, if_neg c4, if_neg c5]) hdl
              have HI := Lib.hid hP
              clear hP c0 c1 hI c3 c4 c5
              go_wp2_with (first | (go_at_call 93; (with_reducible refine (closed_N hnr c0' C2.out).mono ?_); rintro e w1 ⟨rfl, h1⟩; have hs1 := h1.gw.size) | (go_at_call 41; (with_reducible refine (ahead_0 (by repeat (first | assumption | refine Now.alloc ?_ _ | refine Now.set ?_ (by simp; omega) _))).mono ?_); rintro e w1 ⟨rfl, h1⟩) | (go_at_call 66; (with_reducible refine (escapes_0 (by repeat (first | assumption | refine Now.alloc ?_ _ | refine Now.set ?_ (by simp; omega) _))).mono ?_); rintro e w1 ⟨rfl, h1⟩) | (go_at_call 42; (with_reducible refine (white_any _ _).mono ?_); rintro e w1 ⟨rfl, rfl⟩) | (go_at_call 95; refine (spoils_any _ _).mono ?_; rintro e w1 ⟨rfl, rfl⟩) | (go_at_call 65; (with_reducible refine (take_any (by repeat (first | assumption | refine Now.alloc ?_ _ | refine Now.set ?_ (by simp; omega) _)) hlq).mono ?_); rintro e w1 ⟨rfl, h1⟩; have hs1 := h1.gw.size) | (at_builtin; refine wpList_append_own _ rfl _ _ 44 rfl (w.alloc zeroT).heap.size 21 i0 (.int .i32 0) 1 4 Try.underlying44 hi hz0 hz1 hz2 rfl (by decide) _ _ _ rfl ((ho.keeps h1 hgB).alloc _) ⟨_, 0, none⟩ 1 1 [.int .i32 _] rfl rfl (cell_one_new _ _ _) (fun u hu => by simp at hu; subst hu; rfl) (by unfold maxLen; omega) (by omega) (by simp at hws ⊢; omega) ?_; intro v' w4 ho4 hg4 _))
              obtain ⟨p1, p2⟩ := Txt.push ho HN.out h1 ho4 hg4
              go_roundw
              case rel => exact ⟨_, _, HI.out, p1, p2⟩
              case measure => rw [p2.left, HN.out.left]; omega
end
end Go.Proofs.Ytfpgkfpehkelcaa
