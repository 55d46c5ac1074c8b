
import Derived.Test.YtlajkfnlkkgneaaTkI
namespace Go.Proofs.Ytlajkfnlkkgneaa
open Go.RowKit
section
variable {g : Nat} {v : Value} {xs r : List Int} {w0 w : World}
set_option maxRecDepth 100000 in
set_option maxHeartbeats 1600000 in
theorem address_any (h : Now 38 g v xs r w0 w) :
    Calls Try.prog 46 #[.pointer (some ⟨g, 0, none⟩)] w fun e w' => e = .returned (tokQ 7 8 (adr r)).val ∧ Now 38 g v xs (adr r).2.2 w0 w' := by
  obtain ⟨i0, hi, hz0, hz1, hz2⟩ := info_parts info_i32
  have hA := (h.alloc zeroT).st.now
  have hgo := h.st.lt
  have hgB : g < (w.alloc zeroT).heap.size := by simp; omega
  have hrl := h.st.rlen'
  have hinv : TxtInv adr (adr r) r.length [] r := ⟨rfl, rfl, rfl, by simp⟩
  go_enter Try.func46, Try.ntmps46
  go_wp2
  go_loopw [3, 4] (fun tv _ wr => ∃ out q, TxtInv adr (adr r) r.length out q ∧ Txt (w.alloc zeroT).heap.size wr tv out ∧ Now 38 g v xs q (w.alloc zeroT) wr) (fun _ _ wr => left g xs.length wr)
  case atStart => exact ⟨[], r, hinv, Txt.nil _ _, hA⟩
  case round =>
    obtain ⟨out, q, hI, ho, hn⟩ := hrel
    clear hA hinv
    have hol : out.length ≤ 100000000 := by have := hI.len; omega
    have hws := hn.gw.size
    have hnr := hn.st.now
    have HN := Lib.hid hn
    clear hn
    by_cases c0 : q.isEmpty = true
    · have HX := Lib.hid (hI.good (q' := []) (by unfold adr; rw [dif_pos c0]))
      clear hI
      go_wp2_with (go_at_call 49; (with_reducible refine (closed_E hnr c0).mono ?_); rintro e w1 ⟨rfl, h1⟩; have hcv := (ho.keeps h1 hgB).conv; have hc := (h1.since HN.out).res hgo)
      refine bodyPost_ret (v := Tok.val (tokQ 7 8 (true, out, []))) ?_ rfl ⟨by rw [HX.out], by rw [HX.out]; exact (h1.since HN.out).wrote h _ _ _ _ _ _⟩
      simp [results, Try.results46, go_sem, hc, Tok.val, tokQ]
    · have c0' : q.isEmpty = false := by simpa using c0
      have hlq : 1 ≤ q.length := List.length_pos_iff.2 (by simpa using c0)
      have hdl := dp_lt c0
      by_cases c1 : ah q 0 = 41
      · have HX := Lib.hid (hI.good (q' := dp 1 q) (by unfold adr; rw [dif_neg c0, if_pos c1]))
        have C1 := Lib.hid c1
        clear c0 c1 hI
        go_wp2_with (go_at_call 49; (with_reducible refine (closed_41 hnr C1.out).mono ?_); rintro e w1 ⟨rfl, h1⟩; have hcv := (ho.keeps h1 hgB).conv; have hc := (h1.since HN.out).res hgo)
        refine bodyPost_ret (v := Tok.val (tokQ 7 8 (true, out, dp 1 q))) ?_ rfl ⟨by rw [HX.out], by rw [HX.out]; exact (h1.since HN.out).wrote h _ _ _ _ _ _⟩
        simp [results, Try.results46, go_sem, hc, Tok.val, tokQ]
      · have C2 := Lib.hid c1
        by_cases c3 : esc q 0 = true
        · have hP := hI.push (x := (escT (dp 1 q)).1) (q' := (escT (dp 1 q)).2) (by
            conv => lhs; unfold adr
            rw [dif_neg c0, if_neg c1, if_pos c3]) (escT_lt c0)
          have hll := escT_lt c0
          have HI := Lib.hid hP
          have C3 := Lib.hid c3
          clear hP c0 c1 hI
          go_wp2_with (first | (go_at_call 49; (with_reducible refine (closed_N hnr c0' C2.out).mono ?_); rintro e w1 ⟨rfl, h1⟩; have hs1 := h1.gw.size) | (go_at_call 18; (with_reducible refine (ahead_0 (by repeat (first | assumption | refine Now.alloc ?_ _ | refine Now.set ?_ (by simp; omega) _))).mono ?_); rintro e w1 ⟨rfl, h1⟩) | (go_at_call 31; (with_reducible refine (escapes_0 (by repeat (first | assumption | refine Now.alloc ?_ _ | refine Now.set ?_ (by simp; omega) _))).mono ?_); rintro e w1 ⟨rfl, h1⟩) | (go_at_call 32; (with_reducible refine (escape_any (by repeat (first | assumption | refine Now.alloc ?_ _ | refine Now.set ?_ (by simp; omega) _)) hlq).mono ?_); rintro e w1 ⟨rfl, h1⟩; have hs1 := h1.gw.size) | (at_builtin; refine wpList_append_own _ rfl _ _ 32 rfl (w.alloc zeroT).heap.size 21 i0 (.int .i32 0) 1 4 Try.underlying32 hi hz0 hz1 hz2 rfl (by decide) _ _ _ rfl ((ho.keeps h1 hgB).alloc _) ⟨_, 0, none⟩ 1 1 [.int .i32 _] rfl rfl (cell_one_new _ _ _) (fun u hu => by simp at hu; subst hu; rfl) (by unfold maxLen; omega) (by omega) (by simp at hws ⊢; omega) ?_; intro v' w4 ho4 hg4 _))
          obtain ⟨p1, p2⟩ := Txt.push ho HN.out h1 ho4 hg4
          go_roundw
          case rel => exact ⟨_, _, HI.out, p1, p2⟩
          case measure => rw [p2.left, HN.out.left]; omega
        · have b3 : esc q 0 = false := by simpa using c3
          by_cases c4 : sWhite (ah q 0) = true
          · have C4 := Lib.hid c4
            by_cases c5 : (wh q).isEmpty = true
            · have HX := Lib.hid (hI.good (q' := []) (by unfold adr; rw [dif_neg c0, if_neg c1, if_neg c3, if_pos c4, if_pos c5]))
              clear c0 c1 hI c3
              go_wp2_with (first | (go_at_call 49; (with_reducible refine (closed_E h1 c5).mono ?_); rintro e w1 ⟨rfl, h1⟩; have hcv := (ho.keeps h1 hgB).conv; have hc := (h1.since HN.out).res hgo) | (first | (go_at_call 49; (with_reducible refine (closed_N hnr c0' C2.out).mono ?_); rintro e w1 ⟨rfl, h1⟩; have hs1 := h1.gw.size) | (go_at_call 18; (with_reducible refine (ahead_0 (by repeat (first | assumption | refine Now.alloc ?_ _ | refine Now.set ?_ (by simp; omega) _))).mono ?_); rintro e w1 ⟨rfl, h1⟩) | (go_at_call 31; (with_reducible refine (escapes_0 (by repeat (first | assumption | refine Now.alloc ?_ _ | refine Now.set ?_ (by simp; omega) _))).mono ?_); rintro e w1 ⟨rfl, h1⟩) | (go_at_call 19; (with_reducible refine (white_any _ _).mono ?_); rintro e w1 ⟨rfl, rfl⟩) | (go_at_call 20; (with_reducible refine (whiteW_any (by repeat (first | assumption | refine Now.alloc ?_ _ | refine Now.set ?_ (by simp; omega) _))).mono ?_); rintro e w1 ⟨rfl, h1⟩)))
              refine bodyPost_ret (v := Tok.val (tokQ 7 8 (true, out, []))) ?_ rfl ⟨by rw [HX.out], by rw [HX.out]; exact (h1.since HN.out).wrote h _ _ _ _ _ _⟩
              simp [results, Try.results46, go_sem, hc, Tok.val, tokQ]
            · have c5' : (wh q).isEmpty = false := by simpa using c5
              by_cases c6 : ah (wh q) 0 = 41
              · have HX := Lib.hid (hI.good (q' := dp 1 (wh q)) (by unfold adr; rw [dif_neg c0, if_neg c1, if_neg c3, if_pos c4, if_neg c5, if_pos c6]))
                have C6 := Lib.hid c6
                clear c0 c1 hI c3 c6 c5
                go_wp2_with (first | (go_at_call 49; (with_reducible refine (closed_41 h1 C6.out).mono ?_); rintro e w1 ⟨rfl, h1⟩; have hcv := (ho.keeps h1 hgB).conv; have hc := (h1.since HN.out).res hgo) | (first | (go_at_call 49; (with_reducible refine (closed_N hnr c0' C2.out).mono ?_); rintro e w1 ⟨rfl, h1⟩; have hs1 := h1.gw.size) | (go_at_call 18; (with_reducible refine (ahead_0 (by repeat (first | assumption | refine Now.alloc ?_ _ | refine Now.set ?_ (by simp; omega) _))).mono ?_); rintro e w1 ⟨rfl, h1⟩) | (go_at_call 31; (with_reducible refine (escapes_0 (by repeat (first | assumption | refine Now.alloc ?_ _ | refine Now.set ?_ (by simp; omega) _))).mono ?_); rintro e w1 ⟨rfl, h1⟩) | (go_at_call 19; (with_reducible refine (white_any _ _).mono ?_); rintro e w1 ⟨rfl, rfl⟩) | (go_at_call 20; (with_reducible refine (whiteW_any (by repeat (first | assumption | refine Now.alloc ?_ _ | refine Now.set ?_ (by simp; omega) _))).mono ?_); rintro e w1 ⟨rfl, h1⟩)))
                refine bodyPost_ret (v := Tok.val (tokQ 7 8 (true, out, dp 1 (wh q)))) ?_ rfl ⟨by rw [HX.out], by rw [HX.out]; exact (h1.since HN.out).wrote h _ _ _ _ _ _⟩
                simp [results, Try.results46, go_sem, hc, Tok.val, tokQ]
              · have HX := Lib.hid (hI.ill (q' := badT (wh q)) (by unfold adr; rw [dif_neg c0, if_neg c1, if_neg c3, if_pos c4, if_neg c5, if_neg c6]))
                have C6 := Lib.hid c6
                clear c0 c1 hI c3 c6 c5
                go_wp2_with (first | (go_at_call 49; (with_reducible refine (closed_N h1 c5' C6.out).mono ?_); rintro e w1 ⟨rfl, h1⟩) | (first | (go_at_call 49; (with_reducible refine (closed_N hnr c0' C2.out).mono ?_); rintro e w1 ⟨rfl, h1⟩; have hs1 := h1.gw.size) | (go_at_call 18; (with_reducible refine (ahead_0 (by repeat (first | assumption | refine Now.alloc ?_ _ | refine Now.set ?_ (by simp; omega) _))).mono ?_); rintro e w1 ⟨rfl, h1⟩) | (go_at_call 31; (with_reducible refine (escapes_0 (by repeat (first | assumption | refine Now.alloc ?_ _ | refine Now.set ?_ (by simp; omega) _))).mono ?_); rintro e w1 ⟨rfl, h1⟩) | (go_at_call 19; (with_reducible refine (white_any _ _).mono ?_); rintro e w1 ⟨rfl, rfl⟩) | (go_at_call 20; (with_reducible refine (whiteW_any (by repeat (first | assumption | refine Now.alloc ?_ _ | refine Now.set ?_ (by simp; omega) _))).mono ?_); rintro e w1 ⟨rfl, h1⟩) | (go_at_call 50; (with_reducible refine (bad_any (by repeat (first | assumption | refine Now.alloc ?_ _ | refine Now.set ?_ (by simp; omega) _))).mono ?_); rintro e w1 ⟨rfl, h1⟩; have hc := (h1.since HN.out).res hgo; simp only [Tok.val])))
                refine bodyPost_ret (v := Tok.val (tokQ 7 8 (false, out, badT (wh q)))) ?_ rfl ⟨by rw [HX.out], by rw [HX.out]; exact (h1.since HN.out).wrote h _ _ _ _ _ _⟩
                simp [results, Try.results46, go_sem, hc, Tok.val, tokQ]
          · have b4 : sWhite (ah q 0) = false := by simpa using c4
            by_cases c5 : spoil (ah q 0) = true
            · have HX := Lib.hid (hI.ill (q' := badT q) (by unfold adr; rw [dif_neg c0, if_neg c1, if_neg c3, if_neg c4, if_pos c5]))
              clear c0 c1 hI c3 c4
              go_wp2_with (first | (go_at_call 49; (with_reducible refine (closed_N hnr c0' C2.out).mono ?_); rintro e w1 ⟨rfl, h1⟩; have hs1 := h1.gw.size) | (go_at_call 18; (with_reducible refine (ahead_0 (by repeat (first | assumption | refine Now.alloc ?_ _ | refine Now.set ?_ (by simp; omega) _))).mono ?_); rintro e w1 ⟨rfl, h1⟩) | (go_at_call 31; (with_reducible refine (escapes_0 (by repeat (first | assumption | refine Now.alloc ?_ _ | refine Now.set ?_ (by simp; omega) _))).mono ?_); rintro e w1 ⟨rfl, h1⟩) | (go_at_call 19; (with_reducible refine (white_any _ _).mono ?_); rintro e w1 ⟨rfl, rfl⟩) | (go_at_call 51; refine (spoils_any _ _).mono ?_; rintro e w1 ⟨rfl, rfl⟩) | (go_at_call 50; (with_reducible refine (bad_any (by repeat (first | assumption | refine Now.alloc ?_ _ | refine Now.set ?_ (by simp; omega) _))).mono ?_); rintro e w1 ⟨rfl, h1⟩; have hc := (h1.since HN.out).res hgo; simp only [Tok.val]))
              refine bodyPost_ret (v := Tok.val (tokQ 7 8 (false, out, badT q))) ?_ rfl ⟨by rw [HX.out], by rw [HX.out]; exact (h1.since HN.out).wrote h _ _ _ _ _ _⟩
              simp [results, Try.results46, go_sem, hc, Tok.val, tokQ]
            · have b5 : spoil (ah q 0) = false := by simpa using c5
              have hP := hI.push (x := ah q 0) (q' := dp 1 q) (by
                conv => lhs; unfold adr
                rw [dif_neg c0, if_neg c1, if_neg c3, if_neg c4, if_neg c5]) hdl
              have HI := Lib.hid hP
              clear hP c0 c1 hI c3 c4 c5
              go_wp2_with (first | (go_at_call 49; (with_reducible refine (closed_N hnr c0' C2.out).mono ?_); rintro e w1 ⟨rfl, h1⟩; have hs1 := h1.gw.size) | (go_at_call 18; (with_reducible refine (ahead_0 (by repeat (first | assumption | refine Now.alloc ?_ _ | refine Now.set ?_ (by simp; omega) _))).mono ?_); rintro e w1 ⟨rfl, h1⟩) | (go_at_call 31; (with_reducible refine (escapes_0 (by repeat (first | assumption | refine Now.alloc ?_ _ | refine Now.set ?_ (by simp; omega) _))).mono ?_); rintro e w1 ⟨rfl, h1⟩) | (go_at_call 19; (with_reducible refine (white_any _ _).mono ?_); rintro e w1 ⟨rfl, rfl⟩) | (go_at_call 51; refine (spoils_any _ _).mono ?_; rintro e w1 ⟨rfl, rfl⟩) | (go_at_call 30; (with_reducible refine (take_any (by repeat (first | assumption | refine Now.alloc ?_ _ | refine Now.set ?_ (by simp; omega) _)) hlq).mono ?_); rintro e w1 ⟨rfl, h1⟩; have hs1 := h1.gw.size) | (at_builtin; refine wpList_append_own _ rfl _ _ 32 rfl (w.alloc zeroT).heap.size 21 i0 (.int .i32 0) 1 4 Try.underlying32 hi hz0 hz1 hz2 rfl (by decide) _ _ _ rfl ((ho.keeps h1 hgB).alloc _) ⟨_, 0, none⟩ 1 1 [.int .i32 _] rfl rfl (cell_one_new _ _ _) (fun u hu => by simp at hu; subst hu; rfl) (by unfold maxLen; omega) (by omega) (by simp at hws ⊢; omega) ?_; intro v' w4 ho4 hg4 _))
              obtain ⟨p1, p2⟩ := Txt.push ho HN.out h1 ho4 hg4
              go_roundw
              case rel => exact ⟨_, _, HI.out, p1, p2⟩
              case measure => rw [p2.left, HN.out.left]; omega
end
end Go.Proofs.Ytlajkfnlkkgneaa
namespace Go.Proofs.Ytlajkfnlkkgneaa
open Go.RowKit
section
variable {g : Nat} {v : Value} {xs r : List Int} {w0 w : World}
theorem skip_back (h : Now 38 g v xs r w0 w) (r' : List Int) (hs : r' <:+ xs) (hl : r'.length = r.length + 1) :
    Calls Try.prog 16 #[.pointer (some ⟨g, 0, none⟩), .int .i64 (-1)] w fun e w' => e = .returned (.tuple #[]) ∧ Now 38 g v xs r' w0 w' :=
  (skip_to h.st (-1) r' hs (by have := hs.length_le; omega)).mono fun _ _ ⟨he, hw⟩ => ⟨he, hw ▸ h.go hs rfl⟩
theorem wh_back (t : List Int) (h : (wh t).length < t.length) : (dp (t.length - (wh t).length - 1) t).length = (wh t).length + 1 := by rw [dp_len]; omega
theorem wh_same (t : List Int) (h : ¬ (wh t).length < t.length) : dp (t.length - (wh t).length - 1) t = wh t := by
  have h1 := wh_suf t
  have h2 := wh_len t
  rw [show t.length - (wh t).length - 1 = 0 by omega]
  exact (h1.eq_of_length (by omega)).symm

set_option maxRecDepth 100000 in
set_option maxHeartbeats 800000 in
theorem url_any (h : Now 38 g v xs r w0 w) (name : ByteArray) (hl : 1 ≤ r.length) :
    Calls Try.prog 40 #[.pointer (some ⟨g, 0, none⟩), .string name] w fun e w' => e = .returned (urlT name r).1.val ∧ Now 38 g v xs (urlT name r).2 w0 w' := by
  have hA := (h.alloc zeroT).st.now
  have hgo := h.st.lt
  have hrl := h.st.rlen'
  have hdl := dp_len 1 r
  have hwl := wh_len (dp 1 r)
  have hds : dp 1 r <:+ xs := (dp_suf 1 r).trans h.st.suf
  by_cases c : ah (wh (dp 1 r)) 0 = 34 ∨ ah (wh (dp 1 r)) 0 = 39
  · have e : urlT name r = ({ kind := 2, text := name }, dp ((dp 1 r).length - (wh (dp 1 r)).length - 1) (dp 1 r)) := by unfold urlT; rw [if_pos c]
    rw [e]
    clear e
    by_cases hk : (wh (dp 1 r)).length < (dp 1 r).length
    · have hb := wh_back _ hk
      have hs2 : dp ((dp 1 r).length - (wh (dp 1 r)).length - 1) (dp 1 r) <:+ xs := (dp_suf _ _).trans hds
      have HB := Lib.hid hb
      have HD := Lib.hid hdl
      clear hb hdl
      rcases c with c | c
      · have b1 : (ah (wh (dp 1 r)) 0 != 34) = false := by simp [c]
        clear c
        go_enter Try.func40, Try.ntmps40
        go_wp2_with (first | (go_at_call 16; (with_reducible refine (skip_back h1 _ hs2 HB.out).mono ?_); rintro e w1 ⟨rfl, h1⟩; have hc := h1.res hgo) | (go_at_call 20; (with_reducible refine (whiteW_any h1).mono ?_); rintro e w1 ⟨rfl, h1⟩) | (first | (go_at_call 30; (with_reducible refine (take_any (by first | assumption | exact hA) hl).mono ?_); rintro e w1 ⟨rfl, h1⟩) | (go_at_call 18; (with_reducible refine (ahead_0 (by repeat (first | assumption | refine Now.alloc ?_ _ | refine Now.set ?_ (by simp; omega) _))).mono ?_); rintro e w1 ⟨rfl, h1⟩)))
        refine bodyPost_ret (v := Tok.val { kind := 2, text := name }) ?_ rfl ⟨rfl, h1.wrote h _ _ _ _ _ _⟩
        simp [results, Try.results40, go_sem, hc, Tok.val]
      · have b1 : (ah (wh (dp 1 r)) 0 != 34) = true := by simp [c]
        have b2 : (ah (wh (dp 1 r)) 0 != 39) = false := by simp [c]
        clear c
        go_enter Try.func40, Try.ntmps40
        go_wp2_with (first | (go_at_call 16; (with_reducible refine (skip_back h1 _ hs2 HB.out).mono ?_); rintro e w1 ⟨rfl, h1⟩; have hc := h1.res hgo) | (go_at_call 20; (with_reducible refine (whiteW_any h1).mono ?_); rintro e w1 ⟨rfl, h1⟩) | (first | (go_at_call 30; (with_reducible refine (take_any (by first | assumption | exact hA) hl).mono ?_); rintro e w1 ⟨rfl, h1⟩) | (go_at_call 18; (with_reducible refine (ahead_0 (by repeat (first | assumption | refine Now.alloc ?_ _ | refine Now.set ?_ (by simp; omega) _))).mono ?_); rintro e w1 ⟨rfl, h1⟩)))
        refine bodyPost_ret (v := Tok.val { kind := 2, text := name }) ?_ rfl ⟨rfl, h1.wrote h _ _ _ _ _ _⟩
        simp [results, Try.results40, go_sem, hc, Tok.val]
    · rw [wh_same _ hk]
      have hle : (dp 1 r).length ≤ (wh (dp 1 r)).length := by omega
      have HD := Lib.hid hdl
      clear hdl hk
      rcases c with c | c
      · have b1 : (ah (wh (dp 1 r)) 0 != 34) = false := by simp [c]
        clear c
        go_enter Try.func40, Try.ntmps40
        go_wp2_with (first | (go_at_call 20; (with_reducible refine (whiteW_any h1).mono ?_); rintro e w1 ⟨rfl, h1⟩) | (go_at_call 18; (with_reducible refine (ahead_0 h1).mono ?_); rintro e w1 ⟨rfl, h1⟩; have hc := h1.res hgo) | (first | (go_at_call 30; (with_reducible refine (take_any (by first | assumption | exact hA) hl).mono ?_); rintro e w1 ⟨rfl, h1⟩)))
        refine bodyPost_ret (v := Tok.val { kind := 2, text := name }) ?_ rfl ⟨rfl, h1.wrote h _ _ _ _ _ _⟩
        simp [results, Try.results40, go_sem, hc, Tok.val]
      · have b1 : (ah (wh (dp 1 r)) 0 != 34) = true := by simp [c]
        have b2 : (ah (wh (dp 1 r)) 0 != 39) = false := by simp [c]
        clear c
        go_enter Try.func40, Try.ntmps40
        go_wp2_with (first | (go_at_call 20; (with_reducible refine (whiteW_any h1).mono ?_); rintro e w1 ⟨rfl, h1⟩) | (go_at_call 18; (with_reducible refine (ahead_0 h1).mono ?_); rintro e w1 ⟨rfl, h1⟩; have hc := h1.res hgo) | (first | (go_at_call 30; (with_reducible refine (take_any (by first | assumption | exact hA) hl).mono ?_); rintro e w1 ⟨rfl, h1⟩)))
        refine bodyPost_ret (v := Tok.val { kind := 2, text := name }) ?_ rfl ⟨rfl, h1.wrote h _ _ _ _ _ _⟩
        simp [results, Try.results40, go_sem, hc, Tok.val]
  · have e : urlT name r = (tokQ 7 8 (adr (wh (dp 1 r))), (adr (wh (dp 1 r))).2.2) := by unfold urlT; rw [if_neg c]
    rw [e]
    clear e
    have b1 : (ah (wh (dp 1 r)) 0 != 34) = true := by simp; intro h; exact c (.inl h)
    have b2 : (ah (wh (dp 1 r)) 0 != 39) = true := by simp; intro h; exact c (.inr h)
    have HD := Lib.hid hdl
    clear c hdl
    go_enter Try.func40, Try.ntmps40
    go_wp2_with (first | (go_at_call 20; (with_reducible refine (whiteW_any h1).mono ?_); rintro e w1 ⟨rfl, h1⟩) | (go_at_call 46; (with_reducible refine (address_any h1).mono ?_); rintro e w1 ⟨rfl, h1⟩; have hc := h1.res hgo; simp only [Tok.val]) | (first | (go_at_call 30; (with_reducible refine (take_any (by first | assumption | exact hA) hl).mono ?_); rintro e w1 ⟨rfl, h1⟩) | (go_at_call 18; (with_reducible refine (ahead_0 (by repeat (first | assumption | refine Now.alloc ?_ _ | refine Now.set ?_ (by simp; omega) _))).mono ?_); rintro e w1 ⟨rfl, h1⟩)))
    refine bodyPost_ret (v := Tok.val (tokQ 7 8 (adr (wh (dp 1 r))))) ?_ rfl ⟨rfl, h1.wrote h _ _ _ _ _ _⟩
    simp [results, Try.results40, go_sem, hc, Tok.val]

set_option maxRecDepth 100000 in
set_option maxHeartbeats 800000 in
theorem ident_any (h : Now 38 g v xs r w0 w) :
    Calls Try.prog 27 #[.pointer (some ⟨g, 0, none⟩)] w fun e w' => e = .returned (identT r).1.val ∧ Now 38 g v xs (identT r).2 w0 w' := by
  have hA := (h.alloc zeroT).st.now
  have hgo := h.st.lt
  have hrl := h.st.rlen'
  have hnl := nm_length r.length r
  have hsz : (runesBytes (nm r).1).size ≤ 1000000000 := by
    have := runesBytes_size_le (nm r).1
    unfold nm at this ⊢
    omega
  by_cases c : ah (nm r).2 0 ≠ 40
  · have e : identT r = ({ kind := 1, text := runesBytes (nm r).1 }, (nm r).2) := by unfold identT; rw [if_pos c]
    rw [e]
    have b1 : (ah (nm r).2 0 != 40) = true := by simp [c]
    clear e c
    go_enter Try.func27, Try.ntmps27
    go_wp2_with (first | (go_at_call 34; (with_reducible refine (nameW_any hA).mono ?_); rintro e w1 ⟨rfl, h1⟩) | (go_at_call 18; (with_reducible refine (ahead_0 h1).mono ?_); rintro e w1 ⟨rfl, h1⟩; have hc := h1.res hgo))
    refine bodyPost_ret (v := Tok.val { kind := 1, text := runesBytes (nm r).1 }) ?_ rfl ⟨rfl, h1.wrote h _ _ _ _ _ _⟩
    simp [results, Try.results27, go_sem, hc, Tok.val]
  · have b1 : (ah (nm r).2 0 != 40) = false := by simpa using c
    have hl2 : 1 ≤ (nm r).2.length := len_of_ah (n := 0) (by intro e; apply c; rw [e]; decide)
    by_cases c2 : ((lowS (runesBytes (nm r).1)).toList == [117, 114, 108]) = true
    · have e : identT r = urlT (runesBytes (nm r).1) (nm r).2 := by unfold identT; rw [if_neg c, if_pos c2]
      rw [e]
      clear e c
      go_enter Try.func27, Try.ntmps27
      go_wp2_with (first | (go_at_call 34; (with_reducible refine (nameW_any hA).mono ?_); rintro e w1 ⟨rfl, h1⟩) | (go_at_call 39; (with_reducible refine (lower_any _ _ hsz).mono ?_); rintro e w2 ⟨rfl, hb2⟩; have h2 := h1.below hb2) | (go_at_call 40; (with_reducible refine (url_any h2 _ hl2).mono ?_); rintro e w1 ⟨rfl, h1⟩; have hc := h1.res hgo; simp only [Tok.val]) | (first | (go_at_call 18; (with_reducible refine (ahead_0 (by repeat (first | assumption | refine Now.alloc ?_ _ | refine Now.set ?_ (by simp; omega) _))).mono ?_); rintro e w1 ⟨rfl, h1⟩)))
      refine bodyPost_ret (v := Tok.val (urlT (runesBytes (nm r).1) (nm r).2).1) ?_ rfl ⟨rfl, h1.wrote h _ _ _ _ _ _⟩
      simp [results, Try.results27, go_sem, hc, Tok.val]
    · have e : identT r = ({ kind := 2, text := runesBytes (nm r).1 }, dp 1 (nm r).2) := by unfold identT; rw [if_neg c, if_neg c2]
      rw [e]
      clear e c
      have b2 : ((lowS (runesBytes (nm r).1)).toList == [117, 114, 108]) = false := by simpa using c2
      clear c2
      go_enter Try.func27, Try.ntmps27
      go_wp2_with (first | (go_at_call 34; (with_reducible refine (nameW_any hA).mono ?_); rintro e w1 ⟨rfl, h1⟩) | (go_at_call 39; (with_reducible refine (lower_any _ _ hsz).mono ?_); rintro e w2 ⟨rfl, hb2⟩; have h2 := h1.below hb2) | (go_at_call 30; (with_reducible refine (take_any h2 hl2).mono ?_); rintro e w1 ⟨rfl, h1⟩; have hc := h1.res hgo) | (first | (go_at_call 18; (with_reducible refine (ahead_0 (by repeat (first | assumption | refine Now.alloc ?_ _ | refine Now.set ?_ (by simp; omega) _))).mono ?_); rintro e w1 ⟨rfl, h1⟩)))
      refine bodyPost_ret (v := Tok.val { kind := 2, text := runesBytes (nm r).1 }) ?_ rfl ⟨rfl, h1.wrote h _ _ _ _ _ _⟩
      simp [results, Try.results27, go_sem, hc, Tok.val]
end
end Go.Proofs.Ytlajkfnlkkgneaa
