
import Derived.Test.YtfggpenfdfklkaaGreatTkD
import Derived.Lib.Strings
import Derived.StillTailTactics
import Derived.Deep.RegionHeld3
namespace Go.Proofs.YtfggpenfdfklkaaGreat
open Go.RowKit
section
variable {g : Nat} {v : Value} {xs r : List Int} {w0 w : World}
set_option maxRecDepth 100000 in
set_option maxHeartbeats 800000 in
theorem atWord_any (h : Now 80 g v xs r w0 w) (hl : 1 ≤ r.length) :
    Calls Tryz.prog 79 #[.pointer (some ⟨g, 0, none⟩)] w fun e w' => e = .returned (atT r).1.val ∧ Now 80 g v xs (atT r).2 w0 w' := by
  have hA := (h.alloc zeroT).st.now
  have hgo := h.st.lt
  by_cases hb : nbg r 1 = true
  · have e : atT r = ({ kind := 3, text := runesBytes (nm (dp 1 r)).1 }, (nm (dp 1 r)).2) := by unfold atT; rw [if_pos hb]
    rw [e]
    clear e
    go_enter Tryz.func79, Tryz.ntmps79
    go_wp2_with (first | (go_at_call 82; (with_reducible refine (nbg_1 (by first | assumption | exact hA)).mono ?_); rintro e w1 ⟨rfl, h1⟩) | (go_at_call 102; (with_reducible refine (take_any (by first | assumption | exact hA) hl).mono ?_); rintro e w1 ⟨rfl, h1⟩) | (go_at_call 106; (with_reducible refine (nameW_any (by first | assumption | exact hA)).mono ?_); rintro e w1 ⟨rfl, h1⟩; have hc := h1.res hgo))
    refine bodyPost_ret (v := Tok.val { kind := 3, text := runesBytes (nm (dp 1 r)).1 }) ?_ rfl ⟨rfl, h1.wrote h _ _ _ _ _ _⟩
    simp [results, Tryz.results79, go_sem, hc, Tok.val]
  · have e : atT r = (markT (ah r 0), dp 1 r) := by unfold atT; rw [if_neg hb]
    have hb2 : nbg r 1 = false := by simpa using hb
    clear hb
    rw [e]
    clear e
    go_enter Tryz.func79, Tryz.ntmps79
    go_wp2_with (first | (go_at_call 82; (with_reducible refine (nbg_1 (by first | assumption | exact hA)).mono ?_); rintro e w1 ⟨rfl, h1⟩) | (go_at_call 84; (with_reducible refine (mark_any (by first | assumption | exact hA) hl).mono ?_); rintro e w1 ⟨rfl, h1⟩; have hc := h1.res hgo; simp only [Tok.val]))
    refine bodyPost_ret (v := (markT (ah r 0)).val) ?_ rfl ⟨rfl, h1.wrote h _ _ _ _ _ _⟩
    simp [results, Tryz.results79, go_sem, hc, Tok.val]
set_option maxRecDepth 100000 in
set_option maxHeartbeats 800000 in
theorem hash_any (h : Now 80 g v xs r w0 w) (hl : 1 ≤ r.length) :
    Calls Tryz.prog 78 #[.pointer (some ⟨g, 0, none⟩)] w fun e w' => e = .returned (hashT r).1.val ∧ Now 80 g v xs (hashT r).2 w0 w' := by
  have hA := (h.alloc zeroT).st.now
  have hgo := h.st.lt
  by_cases hb : (sName (ah r 1) || esc r 1) = true
  · have e : hashT r = ({ kind := 4, text := runesBytes (nm (dp 1 r)).1, id := nbg (dp 1 r) 0 }, (nm (dp 1 r)).2) := by unfold hashT; rw [if_pos hb]
    rw [e]
    clear e
    by_cases hb1 : sName (ah r 1) = true
    · clear hb
      go_enter Tryz.func78, Tryz.ntmps78
      go_wp2_with (first | (go_at_call 74; (with_reducible refine (ahead_1 (by first | assumption | exact hA)).mono ?_); rintro e w1 ⟨rfl, h1⟩) | (go_at_call 105; (with_reducible refine (name_any _ _).mono ?_); rintro e w1 ⟨rfl, rfl⟩) | (go_at_call 103; (with_reducible refine (escapes_1 (by first | assumption | exact hA)).mono ?_); rintro e w1 ⟨rfl, h1⟩) | (go_at_call 102; (with_reducible refine (take_any (by first | assumption | exact hA) hl).mono ?_); rintro e w1 ⟨rfl, h1⟩) | (go_at_call 82; (with_reducible refine (nbg_0 (by first | assumption | exact hA)).mono ?_); rintro e w1 ⟨rfl, h1⟩) | (go_at_call 106; (with_reducible refine (nameW_any (by first | assumption | exact hA)).mono ?_); rintro e w1 ⟨rfl, h1⟩; have hc := h1.res hgo))
      refine bodyPost_ret (v := Tok.val { kind := 4, text := runesBytes (nm (dp 1 r)).1, id := nbg (dp 1 r) 0 }) ?_ rfl ⟨rfl, h1.wrote h _ _ _ _ _ _⟩
      simp [results, Tryz.results78, go_sem, hc, Tok.val]
    · have hb2 : sName (ah r 1) = false := by simpa using hb1
      have hb3 : esc r 1 = true := by simpa [hb2] using hb
      clear hb hb1
      go_enter Tryz.func78, Tryz.ntmps78
      go_wp2_with (first | (go_at_call 74; (with_reducible refine (ahead_1 (by first | assumption | exact hA)).mono ?_); rintro e w1 ⟨rfl, h1⟩) | (go_at_call 105; (with_reducible refine (name_any _ _).mono ?_); rintro e w1 ⟨rfl, rfl⟩) | (go_at_call 103; (with_reducible refine (escapes_1 (by first | assumption | exact hA)).mono ?_); rintro e w1 ⟨rfl, h1⟩) | (go_at_call 102; (with_reducible refine (take_any (by first | assumption | exact hA) hl).mono ?_); rintro e w1 ⟨rfl, h1⟩) | (go_at_call 82; (with_reducible refine (nbg_0 (by first | assumption | exact hA)).mono ?_); rintro e w1 ⟨rfl, h1⟩) | (go_at_call 106; (with_reducible refine (nameW_any (by first | assumption | exact hA)).mono ?_); rintro e w1 ⟨rfl, h1⟩; have hc := h1.res hgo))
      refine bodyPost_ret (v := Tok.val { kind := 4, text := runesBytes (nm (dp 1 r)).1, id := nbg (dp 1 r) 0 }) ?_ rfl ⟨rfl, h1.wrote h _ _ _ _ _ _⟩
      simp [results, Tryz.results78, go_sem, hc, Tok.val]
  · have e : hashT r = (markT (ah r 0), dp 1 r) := by unfold hashT; rw [if_neg hb]
    have hb2 : sName (ah r 1) = false := by simp at hb; simp [hb]
    have hb3 : esc r 1 = false := by simp at hb; simp [hb]
    clear hb
    rw [e]
    clear e
    go_enter Tryz.func78, Tryz.ntmps78
    go_wp2_with (first | (go_at_call 74; (with_reducible refine (ahead_1 (by first | assumption | exact hA)).mono ?_); rintro e w1 ⟨rfl, h1⟩) | (go_at_call 105; (with_reducible refine (name_any _ _).mono ?_); rintro e w1 ⟨rfl, rfl⟩) | (go_at_call 103; (with_reducible refine (escapes_1 (by first | assumption | exact hA)).mono ?_); rintro e w1 ⟨rfl, h1⟩) | (go_at_call 84; (with_reducible refine (mark_any (by first | assumption | exact hA) hl).mono ?_); rintro e w1 ⟨rfl, h1⟩; have hc := h1.res hgo; simp only [Tok.val]))
    refine bodyPost_ret (v := (markT (ah r 0)).val) ?_ rfl ⟨rfl, h1.wrote h _ _ _ _ _ _⟩
    simp [results, Tryz.results78, go_sem, hc, Tok.val]
end
end Go.Proofs.YtfggpenfdfklkaaGreat
namespace Go.Proofs.YtfggpenfdfklkaaGreat
open Go.RowKit

/-- What a loop over a text's signs has done: out so far, q still to come; X is what the whole comes to. -/
structure TxtInv (f : List Int → Bool × List Int × List Int) (X : Bool × List Int × List Int) (n : Nat) (out q : List Int) : Prop where
  one : (f q).1 = X.1
  two : out ++ (f q).2.1 = X.2.1
  three : (f q).2.2 = X.2.2
  len : out.length + q.length ≤ n

theorem TxtInv.same {f : List Int → Bool × List Int × List Int} {X : Bool × List Int × List Int} {n : Nat} {out q q' : List Int} (h : TxtInv f X n out q) (he : f q = f q') (hl : q'.length ≤ q.length) : TxtInv f X n out q' :=
  ⟨by rw [← he]; exact h.one, by rw [← he]; exact h.two, by rw [← he]; exact h.three, by have := h.len; omega⟩
theorem TxtInv.push {f : List Int → Bool × List Int × List Int} {X : Bool × List Int × List Int} {n : Nat} {out q q' : List Int} {x : Int} (h : TxtInv f X n out q) (he : f q = ((f q').1, x :: (f q').2.1, (f q').2.2)) (hl : q'.length < q.length) : TxtInv f X n (out ++ [x]) q' := by
  obtain ⟨h1, h2, h3, h4⟩ := h
  rw [he] at h1 h2 h3
  exact ⟨h1, by rw [← h2]; simp, h3, by rw [List.length_append]; simp; omega⟩
theorem TxtInv.good {f : List Int → Bool × List Int × List Int} {X : Bool × List Int × List Int} {n : Nat} {out q q' : List Int} (h : TxtInv f X n out q) (he : f q = (true, [], q')) : X = (true, out, q') := by
  obtain ⟨h1, h2, h3, h4⟩ := h
  rw [he] at h1 h2 h3
  simp at h2
  rw [h2]
  rw [show X = (X.1, X.2.1, X.2.2) from rfl, ← h1, ← h3]
theorem TxtInv.ill {f : List Int → Bool × List Int × List Int} {X : Bool × List Int × List Int} {n : Nat} {out q q' : List Int} (h : TxtInv f X n out q) (he : f q = (false, [], q')) : X = (false, out, q') := by
  obtain ⟨h1, h2, h3, h4⟩ := h
  rw [he] at h1 h2 h3
  simp at h2
  rw [h2]
  rw [show X = (X.1, X.2.1, X.2.2) from rfl, ← h1, ← h3]

section
variable {g : Nat} {v : Value} {xs r : List Int} {w0 w : World}
set_option maxRecDepth 100000 in
set_option maxHeartbeats 1600000 in
theorem quoted_any (h : Now 80 g v xs r w0 w) (hl : 1 ≤ r.length) :
    Calls Tryz.prog 77 #[.pointer (some ⟨g, 0, none⟩)] w fun e w' => e = .returned (quotedT r).1.val ∧ Now 80 g v xs (quotedT r).2 w0 w' := by
  obtain ⟨i0, hi, hz0, hz1, hz2⟩ := info_parts info_i32
  have hA := (h.alloc zeroT).st.now
  have hgo := h.st.lt
  have hgB : g < (w.alloc zeroT).heap.size := by simp; omega
  have hrl := h.st.rlen'
  unfold quotedT
  have hinv : TxtInv (qt (ah r 0)) (qt (ah r 0) (dp 1 r)) (dp 1 r).length [] (dp 1 r) := ⟨rfl, rfl, rfl, by simp⟩
  have hdl : (dp 1 r).length ≤ 100000000 := by rw [dp_len]; omega
  go_enter Tryz.func77, Tryz.ntmps77
  go_wp2_with (first | (go_at_call 102; (with_reducible refine (take_any (by first | assumption | exact hA) hl).mono ?_); rintro e w1 ⟨rfl, h1⟩))
  go_loopw [4, 5] (fun tv _ wr => ∃ out q, TxtInv (qt (ah r 0)) (qt (ah r 0) (dp 1 r)) (dp 1 r).length out q ∧ Txt (w.alloc zeroT).heap.size wr tv out ∧ Now 80 g v xs q (w.alloc zeroT) wr) (fun _ _ wr => left g xs.length wr)
  case atStart => exact ⟨[], dp 1 r, hinv, Txt.nil _ _, h1⟩
  case round =>
    obtain ⟨out, q, hI, ho, hn⟩ := hrel
    clear hA hinv h1
    have hol : out.length ≤ 100000000 := by have := hI.len; omega
    have hws := hn.gw.size
    have hnr := hn.st.now
    have HN := Lib.hid hn
    clear hn
    by_cases c0 : q.isEmpty = true
    · have HX := Lib.hid (hI.good (q' := []) (by unfold qt; rw [dif_pos c0]))
      have hq : q = [] := by simpa using c0
      subst hq
      clear c0 hI
      go_wp2_with (first | (go_at_call 51; (with_reducible refine (ended_any (by repeat (first | assumption | refine Now.alloc ?_ _ | refine Now.set ?_ (by simp; omega) _))).mono ?_); rintro e w1 ⟨rfl, h1⟩; have hcv := (ho.keeps h1 hgB).conv; have hc := (h1.since HN.out).res hgo))
      refine bodyPost_ret (v := Tok.val (tokQ 5 6 (true, out, []))) ?_ rfl ⟨by rw [HX.out], by rw [HX.out]; exact (h1.since HN.out).wrote h _ _ _ _ _ _⟩
      simp [results, Tryz.results77, go_sem, hc, Tok.val, tokQ]
    · have c0' : q.isEmpty = false := by simpa using c0
      have hlq : 1 ≤ q.length := List.length_pos_iff.2 (by simpa using c0)
      by_cases c1 : ah q 0 = ah r 0
      · have HX := Lib.hid (hI.good (q' := dp 1 q) (by unfold qt; rw [dif_neg c0, if_pos c1]))
        have b1 : (ah q 0 == ah r 0) = true := by simp [c1]
        clear c0 c1 hI
        go_wp2_with (first | (go_at_call 51; (with_reducible refine (ended_any (by repeat (first | assumption | refine Now.alloc ?_ _ | refine Now.set ?_ (by simp; omega) _))).mono ?_); rintro e w1 ⟨rfl, h1⟩; have hs1 := h1.gw.size) | (go_at_call 74; (with_reducible refine (ahead_0 (by repeat (first | assumption | refine Now.alloc ?_ _ | refine Now.set ?_ (by simp; omega) _))).mono ?_); rintro e w1 ⟨rfl, h1⟩) | (go_at_call 102; (with_reducible refine (take_any (by repeat (first | assumption | refine Now.alloc ?_ _ | refine Now.set ?_ (by simp; omega) _)) hlq).mono ?_); rintro e w1 ⟨rfl, h1⟩; have hcv := (ho.keeps h1 hgB).conv; have hc := (h1.since HN.out).res hgo))
        refine bodyPost_ret (v := Tok.val (tokQ 5 6 (true, out, dp 1 q))) ?_ rfl ⟨by rw [HX.out], by rw [HX.out]; exact (h1.since HN.out).wrote h _ _ _ _ _ _⟩
        simp [results, Tryz.results77, go_sem, hc, Tok.val, tokQ]
      · have b1 : (ah q 0 == ah r 0) = false := by simp [c1]
        by_cases c2 : ah q 0 = 10
        · have HX := Lib.hid (hI.ill (q' := q) (by unfold qt; rw [dif_neg c0, if_neg c1, if_pos c2]))
          have b2 : (ah q 0 == 10) = true := by simp [c2]
          clear c0 c1 hI c2
          go_wp2_with (first | (go_at_call 51; (with_reducible refine (ended_any (by repeat (first | assumption | refine Now.alloc ?_ _ | refine Now.set ?_ (by simp; omega) _))).mono ?_); rintro e w1 ⟨rfl, h1⟩; have hs1 := h1.gw.size) | (go_at_call 74; (with_reducible refine (ahead_0 (by repeat (first | assumption | refine Now.alloc ?_ _ | refine Now.set ?_ (by simp; omega) _))).mono ?_); rintro e w1 ⟨rfl, h1⟩; have hc := (h1.since HN.out).res hgo))
          refine bodyPost_ret (v := Tok.val (tokQ 5 6 (false, out, q))) ?_ rfl ⟨by rw [HX.out], by rw [HX.out]; exact (h1.since HN.out).wrote h _ _ _ _ _ _⟩
          simp [results, Tryz.results77, go_sem, hc, Tok.val, tokQ]
        · have b2 : (ah q 0 == 10) = false := by simp [c2]
          by_cases c3 : ah q 0 ≠ 92
          · have hP := hI.push (x := ah q 0) (q' := dp 1 q) (by conv => lhs; unfold qt
                                                                rw [dif_neg c0, if_neg c1, if_neg c2, if_pos c3]) (dp_lt c0)
            have b3 : (ah q 0 != 92) = true := by simp [c3]
            have HI := Lib.hid hP
            clear hP c0 c1 c2 c3 hI
            go_wp2_with (first | (go_at_call 51; (with_reducible refine (ended_any (by repeat (first | assumption | refine Now.alloc ?_ _ | refine Now.set ?_ (by simp; omega) _))).mono ?_); rintro e w1 ⟨rfl, h1⟩; have hs1 := h1.gw.size) | (go_at_call 74; (with_reducible refine (ahead_0 (by repeat (first | assumption | refine Now.alloc ?_ _ | refine Now.set ?_ (by simp; omega) _))).mono ?_); rintro e w1 ⟨rfl, h1⟩) | (go_at_call 102; (with_reducible refine (take_any (by repeat (first | assumption | refine Now.alloc ?_ _ | refine Now.set ?_ (by simp; omega) _)) hlq).mono ?_); rintro e w1 ⟨rfl, h1⟩; have hs1 := h1.gw.size) | (at_builtin; refine wpList_append_own _ rfl _ _ 59 rfl (w.alloc zeroT).heap.size 21 i0 (.int .i32 0) 1 4 Tryz.underlying59 hi hz0 hz1 hz2 rfl (by decide) _ _ _ rfl ((ho.keeps h1 hgB).alloc _) ⟨_, 0, none⟩ 1 1 [.int .i32 _] rfl rfl (cell_one_new _ _ _) (fun u hu => by simp at hu; subst hu; rfl) (by unfold maxLen; omega) (by omega) (by simp at hws ⊢; omega) ?_; intro v' w4 ho4 hg4 _))
            obtain ⟨p1, p2⟩ := Txt.push ho HN.out h1 ho4 hg4
            go_roundw
            case rel => exact ⟨_, _, HI.out, p1, p2⟩
            case measure => rw [p2.left, HN.out.left, dp_len]; omega
          · have b3 : (ah q 0 != 92) = false := by simpa using c3
            by_cases c4 : q.length ≤ 1
            · have hP := hI.same (q' := dp 1 q) (by
                have he : (dp 1 q).isEmpty = true := by
                  have : (dp 1 q).length = 0 := by rw [dp_len]; omega
                  simpa using this
                unfold qt
                rw [dif_neg c0, if_neg c1, if_neg c2, if_neg c3, if_pos c4, dif_pos he]) (by rw [dp_len]; omega)
              have b4 : decide (q.length ≤ 1) = true := by simp [c4]
              have HI := Lib.hid hP
              clear hP c0 c1 c2 c3 hI
              go_wp2_with (first | (go_at_call 51; (with_reducible refine (ended_any (by repeat (first | assumption | refine Now.alloc ?_ _ | refine Now.set ?_ (by simp; omega) _))).mono ?_); rintro e w1 ⟨rfl, h1⟩; have hs1 := h1.gw.size) | (go_at_call 74; (with_reducible refine (ahead_0 (by repeat (first | assumption | refine Now.alloc ?_ _ | refine Now.set ?_ (by simp; omega) _))).mono ?_); rintro e w1 ⟨rfl, h1⟩) | (go_at_call 73; (with_reducible refine (behind_1 (by repeat (first | assumption | refine Now.alloc ?_ _ | refine Now.set ?_ (by simp; omega) _))).mono ?_); rintro e w1 ⟨rfl, h1⟩) | (go_at_call 102; (with_reducible refine (take_any (by repeat (first | assumption | refine Now.alloc ?_ _ | refine Now.set ?_ (by simp; omega) _)) hlq).mono ?_); rintro e w1 ⟨rfl, h1⟩; have hs1 := h1.gw.size))
              go_roundw
              case rel => exact ⟨_, _, HI.out, ho.keeps h1 hgB, h1.since HN.out⟩
              case measure => rw [h1.left, HN.out.left, dp_len]; omega
            · have b4 : decide (q.length ≤ 1) = false := by simp [c4]
              by_cases c5 : esc q 0 = true
              · have hP := hI.push (x := (escT (dp 1 q)).1) (q' := (escT (dp 1 q)).2) (by
                  conv => lhs; unfold qt
                  rw [dif_neg c0, if_neg c1, if_neg c2, if_neg c3, if_neg c4, if_pos c5]) (escT_lt c0)
                have hll := escT_lt c0
                have HI := Lib.hid hP
                have C5 := Lib.hid c5
                clear hP c0 c1 c2 c3 hI
                go_wp2_with (first | (go_at_call 51; (with_reducible refine (ended_any (by repeat (first | assumption | refine Now.alloc ?_ _ | refine Now.set ?_ (by simp; omega) _))).mono ?_); rintro e w1 ⟨rfl, h1⟩; have hs1 := h1.gw.size) | (go_at_call 74; (with_reducible refine (ahead_0 (by repeat (first | assumption | refine Now.alloc ?_ _ | refine Now.set ?_ (by simp; omega) _))).mono ?_); rintro e w1 ⟨rfl, h1⟩) | (go_at_call 73; (with_reducible refine (behind_1 (by repeat (first | assumption | refine Now.alloc ?_ _ | refine Now.set ?_ (by simp; omega) _))).mono ?_); rintro e w1 ⟨rfl, h1⟩) | (go_at_call 103; (with_reducible refine (escapes_0 (by repeat (first | assumption | refine Now.alloc ?_ _ | refine Now.set ?_ (by simp; omega) _))).mono ?_); rintro e w1 ⟨rfl, h1⟩) | (go_at_call 104; (with_reducible refine (escape_any (by repeat (first | assumption | refine Now.alloc ?_ _ | refine Now.set ?_ (by simp; omega) _)) hlq).mono ?_); rintro e w1 ⟨rfl, h1⟩; have hs1 := h1.gw.size) | (at_builtin; refine wpList_append_own _ rfl _ _ 59 rfl (w.alloc zeroT).heap.size 21 i0 (.int .i32 0) 1 4 Tryz.underlying59 hi hz0 hz1 hz2 rfl (by decide) _ _ _ rfl ((ho.keeps h1 hgB).alloc _) ⟨_, 0, none⟩ 1 1 [.int .i32 _] rfl rfl (cell_one_new _ _ _) (fun u hu => by simp at hu; subst hu; rfl) (by unfold maxLen; omega) (by omega) (by simp at hws ⊢; omega) ?_; intro v' w4 ho4 hg4 _))
                obtain ⟨p1, p2⟩ := Txt.push ho HN.out h1 ho4 hg4
                go_roundw
                case rel => exact ⟨_, _, HI.out, p1, p2⟩
                case measure => rw [p2.left, HN.out.left]; omega
              · have hP := hI.same (q' := dp 2 q) (by
                  conv => lhs; unfold qt
                  rw [dif_neg c0, if_neg c1, if_neg c2, if_neg c3, if_neg c4, if_neg c5]) (by rw [dp_len]; omega)
                have b5 : esc q 0 = false := by simpa using c5
                have hl2 : 2 ≤ q.length := by omega
                have HI := Lib.hid hP
                clear hP c0 c1 c2 c3 hI c5
                go_wp2_with (first | (go_at_call 51; (with_reducible refine (ended_any (by repeat (first | assumption | refine Now.alloc ?_ _ | refine Now.set ?_ (by simp; omega) _))).mono ?_); rintro e w1 ⟨rfl, h1⟩; have hs1 := h1.gw.size) | (go_at_call 74; (with_reducible refine (ahead_0 (by repeat (first | assumption | refine Now.alloc ?_ _ | refine Now.set ?_ (by simp; omega) _))).mono ?_); rintro e w1 ⟨rfl, h1⟩) | (go_at_call 73; (with_reducible refine (behind_1 (by repeat (first | assumption | refine Now.alloc ?_ _ | refine Now.set ?_ (by simp; omega) _))).mono ?_); rintro e w1 ⟨rfl, h1⟩) | (go_at_call 103; (with_reducible refine (escapes_0 (by repeat (first | assumption | refine Now.alloc ?_ _ | refine Now.set ?_ (by simp; omega) _))).mono ?_); rintro e w1 ⟨rfl, h1⟩) | (go_at_call 72; (with_reducible refine (skip_2 (by repeat (first | assumption | refine Now.alloc ?_ _ | refine Now.set ?_ (by simp; omega) _)) ?_).mono ?_); (first | assumption | grind [ah_end]); rintro e w1 ⟨rfl, h1⟩))
                go_roundw
                case rel => exact ⟨_, _, HI.out, ho.keeps h1 hgB, h1.since HN.out⟩
                case measure => rw [h1.left, HN.out.left, dp_len]; omega
end
end Go.Proofs.YtfggpenfdfklkaaGreat
namespace Go.Proofs.YtfggpenfdfklkaaGreat
open Go.RowKit
section
variable {g : Nat} {v : Value} {xs r : List Int} {w0 w : World}
theorem spoils_any (a : Int) (w : World) :
    Calls Tryz.prog 133 #[.int .i32 a] w fun e w' => e = .returned (.bool (spoil a)) ∧ w = w' := by
  go_enter Tryz.func133, Tryz.ntmps133
  go_wp2
  all_goals go_ret
  all_goals exact ⟨ret_bool (by grind [spoil]), rfl⟩
theorem pre41 {r : List Int} : pre [41] r = true ↔ ah r 0 = 41 := by
  rw [pre_iff _ _ (by decide)]
  constructor
  · intro h; exact h 0 (by decide)
  · intro h j hj
    obtain rfl : j = 0 := by simpa using hj
    exact h
theorem closed_41 (h : Now 80 g v xs r w0 w) (c1 : ah r 0 = 41) :
    Calls Tryz.prog 131 #[.pointer (some ⟨g, 0, none⟩)] w fun e w' => e = .returned (.bool true) ∧ Now 80 g v xs (dp 1 r) w0 w' := by
  have hp := pre41.2 c1
  have C1 := Lib.hid c1
  clear c1
  go_enter Tryz.func131, Tryz.ntmps131
  go_wp2_with (first | (go_at_call 71; (with_reducible refine (took_any (by repeat (first | assumption | refine Now.alloc ?_ _ | refine Now.set ?_ (by simp; omega) _)) ⟨#[41]⟩ [41] (by decide) (by decide) (by decide)).mono ?_); rintro e w1 (⟨rfl, hp1, h1⟩ | ⟨rfl, hp1, h1⟩)) | (go_at_call 51; (with_reducible refine (ended_any (by repeat (first | assumption | refine Now.alloc ?_ _ | refine Now.set ?_ (by simp; omega) _))).mono ?_); rintro e w1 ⟨rfl, h1⟩))
  · go_ret
    exact ⟨rfl, h1⟩
  all_goals simp_all
theorem closed_E (h : Now 80 g v xs r w0 w) (c1 : r.isEmpty = true) :
    Calls Tryz.prog 131 #[.pointer (some ⟨g, 0, none⟩)] w fun e w' => e = .returned (.bool true) ∧ Now 80 g v xs [] w0 w' := by
  obtain rfl : r = [] := by simpa using c1
  clear c1
  go_enter Tryz.func131, Tryz.ntmps131
  go_wp2_with (first | (go_at_call 71; (with_reducible refine (took_any (by repeat (first | assumption | refine Now.alloc ?_ _ | refine Now.set ?_ (by simp; omega) _)) ⟨#[41]⟩ [41] (by decide) (by decide) (by decide)).mono ?_); rintro e w1 (⟨rfl, hp1, h1⟩ | ⟨rfl, hp1, h1⟩)) | (go_at_call 51; (with_reducible refine (ended_any (by repeat (first | assumption | refine Now.alloc ?_ _ | refine Now.set ?_ (by simp; omega) _))).mono ?_); rintro e w1 ⟨rfl, h1⟩))
  · exact absurd hp1 (by decide)
  · go_ret
    exact ⟨rfl, h1⟩
theorem closed_N (h : Now 80 g v xs r w0 w) (c0 : r.isEmpty = false) (c1 : ah r 0 ≠ 41) :
    Calls Tryz.prog 131 #[.pointer (some ⟨g, 0, none⟩)] w fun e w' => e = .returned (.bool false) ∧ Now 80 g v xs r w0 w' := by
  have hp : ¬ pre [41] r = true := fun hh => c1 (pre41.1 hh)
  clear c1
  go_enter Tryz.func131, Tryz.ntmps131
  go_wp2_with (first | (go_at_call 71; (with_reducible refine (took_any (by repeat (first | assumption | refine Now.alloc ?_ _ | refine Now.set ?_ (by simp; omega) _)) ⟨#[41]⟩ [41] (by decide) (by decide) (by decide)).mono ?_); rintro e w1 (⟨rfl, hp1, h1⟩ | ⟨rfl, hp1, h1⟩)) | (go_at_call 51; (with_reducible refine (ended_any (by repeat (first | assumption | refine Now.alloc ?_ _ | refine Now.set ?_ (by simp; omega) _))).mono ?_); rintro e w1 ⟨rfl, h1⟩))
  · exact absurd hp1 hp
  · go_ret
    exact ⟨rfl, h1⟩
set_option maxRecDepth 100000 in
set_option maxHeartbeats 800000 in
theorem bad_any (h : Now 80 g v xs r w0 w) :
    Calls Tryz.prog 132 #[.pointer (some ⟨g, 0, none⟩)] w fun e w' => e = .returned (Tok.val { kind := 8 }) ∧ Now 80 g v xs (badT r) w0 w' := by
  have hA := (h.alloc zeroT).st.now
  have hgo := h.st.lt
  go_enter Tryz.func132, Tryz.ntmps132
  go_wp2
  go_loopw [] (fun wr => ∃ q, badT q = badT r ∧ Now 80 g v xs q (w.alloc zeroT) wr) (fun wr => left g xs.length wr)
  case atStart => exact ⟨r, rfl, hA⟩
  case round =>
    obtain ⟨q, hq, hn⟩ := hrel
    clear hA
    have HQ := Lib.hid hq
    clear hq
    by_cases c1 : q.isEmpty = true
    · have hX : badT r = [] := by rw [← HQ.out]; unfold badT; rw [dif_pos c1]
      have HX := Lib.hid hX
      clear hX
      go_wp2_with (go_at_call 131; (with_reducible refine (closed_E hn c1).mono ?_); rintro e w1 ⟨rfl, h1⟩; have hc := h1.res hgo)
      refine bodyPost_ret (v := Tok.val { kind := 8 }) ?_ rfl ⟨rfl, by rw [HX.out]; exact h1.wrote h _ _ _ _ _ _⟩
      simp [results, Tryz.results132, go_sem, hc, Tok.val]
    · have c0 : q.isEmpty = false := by simpa using c1
      have hlq : 1 ≤ q.length := List.length_pos_iff.2 (by simpa using c1)
      have hdl := dp_lt c1
      by_cases c2 : ah q 0 = 41
      · have HX := Lib.hid (show badT r = dp 1 q by rw [← HQ.out]; unfold badT; rw [dif_neg c1, if_pos c2])
        have C2 := Lib.hid c2
        clear c2
        go_wp2_with (go_at_call 131; (with_reducible refine (closed_41 hn C2.out).mono ?_); rintro e w1 ⟨rfl, h1⟩; have hc := h1.res hgo)
        refine bodyPost_ret (v := Tok.val { kind := 8 }) ?_ rfl ⟨rfl, by rw [HX.out]; exact h1.wrote h _ _ _ _ _ _⟩
        simp [results, Tryz.results132, go_sem, hc, Tok.val]
      · have C2 := Lib.hid c2
        by_cases c3 : esc q 0 = true
        · have HX := Lib.hid (show badT (escT (dp 1 q)).2 = badT r by rw [← HQ.out]; conv => rhs; unfold badT
                                                                      rw [dif_neg c1, if_neg c2, if_pos c3])
          have hll := escT_lt c1
          clear c2 c1
          go_wp2_with (first | (go_at_call 131; (with_reducible refine (closed_N hn c0 C2.out).mono ?_); rintro e w1 ⟨rfl, h1⟩) | (first | (go_at_call 103; (with_reducible refine (escapes_0 (by repeat (first | assumption | refine Now.alloc ?_ _ | refine Now.set ?_ (by simp; omega) _))).mono ?_); rintro e w1 ⟨rfl, h1⟩) | (go_at_call 104; (with_reducible refine (escape_any (by repeat (first | assumption | refine Now.alloc ?_ _ | refine Now.set ?_ (by simp; omega) _)) hlq).mono ?_); rintro e w1 ⟨rfl, h1⟩; have hs1 := h1.gw.size)))
          go_roundw
          case rel => exact ⟨_, HX.out, h1⟩
          case measure => rw [h1.left, hn.left]; omega
        · have HX := Lib.hid (show badT (dp 1 q) = badT r by rw [← HQ.out]; conv => rhs; unfold badT
                                                             rw [dif_neg c1, if_neg c2, if_neg c3])
          have b3 : esc q 0 = false := by simpa using c3
          clear c2 c1 c3
          go_wp2_with (first | (go_at_call 131; (with_reducible refine (closed_N hn c0 C2.out).mono ?_); rintro e w1 ⟨rfl, h1⟩) | (first | (go_at_call 103; (with_reducible refine (escapes_0 (by repeat (first | assumption | refine Now.alloc ?_ _ | refine Now.set ?_ (by simp; omega) _))).mono ?_); rintro e w1 ⟨rfl, h1⟩) | (go_at_call 72; (with_reducible refine (skip_1 (by repeat (first | assumption | refine Now.alloc ?_ _ | refine Now.set ?_ (by simp; omega) _)) ?_).mono ?_); (first | assumption | grind [ah_end]); rintro e w1 ⟨rfl, h1⟩)))
          go_roundw
          case rel => exact ⟨_, HX.out, h1⟩
          case measure => rw [h1.left, hn.left]; omega
end
end Go.Proofs.YtfggpenfdfklkaaGreat
namespace Go.Proofs.YtfggpenfdfklkaaGreat
open Go.RowKit
section
variable {g : Nat} {v : Value} {xs r : List Int} {w0 w : World}
set_option maxRecDepth 100000 in
set_option maxHeartbeats 1600000 in
theorem address_any (h : Now 80 g v xs r w0 w) :
    Calls Tryz.prog 124 #[.pointer (some ⟨g, 0, none⟩)] w fun e w' => e = .returned (tokQ 7 8 (adr r)).val ∧ Now 80 g v xs (adr r).2.2 w0 w' := by
  obtain ⟨i0, hi, hz0, hz1, hz2⟩ := info_parts info_i32
  have hA := (h.alloc zeroT).st.now
  have hgo := h.st.lt
  have hgB : g < (w.alloc zeroT).heap.size := by simp; omega
  have hrl := h.st.rlen'
  have hinv : TxtInv adr (adr r) r.length [] r := ⟨rfl, rfl, rfl, by simp⟩
  go_enter Tryz.func124, Tryz.ntmps124
  go_wp2
  go_loopw [3, 4] (fun tv _ wr => ∃ out q, TxtInv adr (adr r) r.length out q ∧ Txt (w.alloc zeroT).heap.size wr tv out ∧ Now 80 g v xs q (w.alloc zeroT) wr) (fun _ _ wr => left g xs.length wr)
  case atStart => exact ⟨[], r, hinv, Txt.nil _ _, hA⟩
  case round =>
    obtain ⟨out, q, hI, ho, hn⟩ := hrel
    clear hA hinv
    have hol : out.length ≤ 100000000 := by have := hI.len; omega
    have hws := hn.gw.size
    have hnr := hn.st.now
    have HN := Lib.hid hn
    clear hn
    by_cases c0 : q.isEmpty = true
    · have HX := Lib.hid (hI.good (q' := []) (by unfold adr; rw [dif_pos c0]))
      clear hI
      go_wp2_with (go_at_call 131; (with_reducible refine (closed_E hnr c0).mono ?_); rintro e w1 ⟨rfl, h1⟩; have hcv := (ho.keeps h1 hgB).conv; have hc := (h1.since HN.out).res hgo)
      refine bodyPost_ret (v := Tok.val (tokQ 7 8 (true, out, []))) ?_ rfl ⟨by rw [HX.out], by rw [HX.out]; exact (h1.since HN.out).wrote h _ _ _ _ _ _⟩
      simp [results, Tryz.results124, go_sem, hc, Tok.val, tokQ]
    · have c0' : q.isEmpty = false := by simpa using c0
      have hlq : 1 ≤ q.length := List.length_pos_iff.2 (by simpa using c0)
      have hdl := dp_lt c0
      by_cases c1 : ah q 0 = 41
      · have HX := Lib.hid (hI.good (q' := dp 1 q) (by unfold adr; rw [dif_neg c0, if_pos c1]))
        have C1 := Lib.hid c1
        clear c0 c1 hI
        go_wp2_with (go_at_call 131; (with_reducible refine (closed_41 hnr C1.out).mono ?_); rintro e w1 ⟨rfl, h1⟩; have hcv := (ho.keeps h1 hgB).conv; have hc := (h1.since HN.out).res hgo)
        refine bodyPost_ret (v := Tok.val (tokQ 7 8 (true, out, dp 1 q))) ?_ rfl ⟨by rw [HX.out], by rw [HX.out]; exact (h1.since HN.out).wrote h _ _ _ _ _ _⟩
        simp [results, Tryz.results124, go_sem, hc, Tok.val, tokQ]
      · have C2 := Lib.hid c1
        by_cases c3 : esc q 0 = true
        · have hP := hI.push (x := (escT (dp 1 q)).1) (q' := (escT (dp 1 q)).2) (by
            conv => lhs; unfold adr
            rw [dif_neg c0, if_neg c1, if_pos c3]) (escT_lt c0)
          have hll := escT_lt c0
          have HI := Lib.hid hP
          have C3 := Lib.hid c3
          clear hP c0 c1 hI
          go_wp2_with (first | (go_at_call 131; (with_reducible refine (closed_N hnr c0' C2.out).mono ?_); rintro e w1 ⟨rfl, h1⟩; have hs1 := h1.gw.size) | (go_at_call 74; (with_reducible refine (ahead_0 (by repeat (first | assumption | refine Now.alloc ?_ _ | refine Now.set ?_ (by simp; omega) _))).mono ?_); rintro e w1 ⟨rfl, h1⟩) | (go_at_call 103; (with_reducible refine (escapes_0 (by repeat (first | assumption | refine Now.alloc ?_ _ | refine Now.set ?_ (by simp; omega) _))).mono ?_); rintro e w1 ⟨rfl, h1⟩) | (go_at_call 104; (with_reducible refine (escape_any (by repeat (first | assumption | refine Now.alloc ?_ _ | refine Now.set ?_ (by simp; omega) _)) hlq).mono ?_); rintro e w1 ⟨rfl, h1⟩; have hs1 := h1.gw.size) | (at_builtin; refine wpList_append_own _ rfl _ _ 59 rfl (w.alloc zeroT).heap.size 21 i0 (.int .i32 0) 1 4 Tryz.underlying59 hi hz0 hz1 hz2 rfl (by decide) _ _ _ rfl ((ho.keeps h1 hgB).alloc _) ⟨_, 0, none⟩ 1 1 [.int .i32 _] rfl rfl (cell_one_new _ _ _) (fun u hu => by simp at hu; subst hu; rfl) (by unfold maxLen; omega) (by omega) (by simp at hws ⊢; omega) ?_; intro v' w4 ho4 hg4 _))
          obtain ⟨p1, p2⟩ := Txt.push ho HN.out h1 ho4 hg4
          go_roundw
          case rel => exact ⟨_, _, HI.out, p1, p2⟩
          case measure => rw [p2.left, HN.out.left]; omega
        · have b3 : esc q 0 = false := by simpa using c3
          by_cases c4 : sWhite (ah q 0) = true
          · have C4 := Lib.hid c4
            by_cases c5 : (wh q).isEmpty = true
            · have HX := Lib.hid (hI.good (q' := []) (by unfold adr; rw [dif_neg c0, if_neg c1, if_neg c3, if_pos c4, if_pos c5]))
              clear c0 c1 hI c3
              go_wp2_with (first | (go_at_call 131; (with_reducible refine (closed_E h1 c5).mono ?_); rintro e w1 ⟨rfl, h1⟩; have hcv := (ho.keeps h1 hgB).conv; have hc := (h1.since HN.out).res hgo) | (first | (go_at_call 131; (with_reducible refine (closed_N hnr c0' C2.out).mono ?_); rintro e w1 ⟨rfl, h1⟩; have hs1 := h1.gw.size) | (go_at_call 74; (with_reducible refine (ahead_0 (by repeat (first | assumption | refine Now.alloc ?_ _ | refine Now.set ?_ (by simp; omega) _))).mono ?_); rintro e w1 ⟨rfl, h1⟩) | (go_at_call 103; (with_reducible refine (escapes_0 (by repeat (first | assumption | refine Now.alloc ?_ _ | refine Now.set ?_ (by simp; omega) _))).mono ?_); rintro e w1 ⟨rfl, h1⟩) | (go_at_call 75; (with_reducible refine (white_any _ _).mono ?_); rintro e w1 ⟨rfl, rfl⟩) | (go_at_call 76; (with_reducible refine (whiteW_any (by repeat (first | assumption | refine Now.alloc ?_ _ | refine Now.set ?_ (by simp; omega) _))).mono ?_); rintro e w1 ⟨rfl, h1⟩)))
              refine bodyPost_ret (v := Tok.val (tokQ 7 8 (true, out, []))) ?_ rfl ⟨by rw [HX.out], by rw [HX.out]; exact (h1.since HN.out).wrote h _ _ _ _ _ _⟩
              simp [results, Tryz.results124, go_sem, hc, Tok.val, tokQ]
            · have c5' : (wh q).isEmpty = false := by simpa using c5
              by_cases c6 : ah (wh q) 0 = 41
              · have HX := Lib.hid (hI.good (q' := dp 1 (wh q)) (by unfold adr; rw [dif_neg c0, if_neg c1, if_neg c3, if_pos c4, if_neg c5, if_pos c6]))
                have C6 := Lib.hid c6
                clear c0 c1 hI c3 c6 c5
                go_wp2_with (first | (go_at_call 131; (with_reducible refine (closed_41 h1 C6.out).mono ?_); rintro e w1 ⟨rfl, h1⟩; have hcv := (ho.keeps h1 hgB).conv; have hc := (h1.since HN.out).res hgo) | (first | (go_at_call 131; (with_reducible refine (closed_N hnr c0' C2.out).mono ?_); rintro e w1 ⟨rfl, h1⟩; have hs1 := h1.gw.size) | (go_at_call 74; (with_reducible refine (ahead_0 (by repeat (first | assumption | refine Now.alloc ?_ _ | refine Now.set ?_ (by simp; omega) _))).mono ?_); rintro e w1 ⟨rfl, h1⟩) | (go_at_call 103; (with_reducible refine (escapes_0 (by repeat (first | assumption | refine Now.alloc ?_ _ | refine Now.set ?_ (by simp; omega) _))).mono ?_); rintro e w1 ⟨rfl, h1⟩) | (go_at_call 75; (with_reducible refine (white_any _ _).mono ?_); rintro e w1 ⟨rfl, rfl⟩) | (go_at_call 76; (with_reducible refine (whiteW_any (by repeat (first | assumption | refine Now.alloc ?_ _ | refine Now.set ?_ (by simp; omega) _))).mono ?_); rintro e w1 ⟨rfl, h1⟩)))
                refine bodyPost_ret (v := Tok.val (tokQ 7 8 (true, out, dp 1 (wh q)))) ?_ rfl ⟨by rw [HX.out], by rw [HX.out]; exact (h1.since HN.out).wrote h _ _ _ _ _ _⟩
                simp [results, Tryz.results124, go_sem, hc, Tok.val, tokQ]
              · have HX := Lib.hid (hI.ill (q' := badT (wh q)) (by unfold adr; rw [dif_neg c0, if_neg c1, if_neg c3, if_pos c4, if_neg c5, if_neg c6]))
                have C6 := Lib.hid c6
                clear c0 c1 hI c3 c6 c5
                go_wp2_with (first | (go_at_call 131; (with_reducible refine (closed_N h1 c5' C6.out).mono ?_); rintro e w1 ⟨rfl, h1⟩) | (first | (go_at_call 131; (with_reducible refine (closed_N hnr c0' C2.out).mono ?_); rintro e w1 ⟨rfl, h1⟩; have hs1 := h1.gw.size) | (go_at_call 74; (with_reducible refine (ahead_0 (by repeat (first | assumption | refine Now.alloc ?_ _ | refine Now.set ?_ (by simp; omega) _))).mono ?_); rintro e w1 ⟨rfl, h1⟩) | (go_at_call 103; (with_reducible refine (escapes_0 (by repeat (first | assumption | refine Now.alloc ?_ _ | refine Now.set ?_ (by simp; omega) _))).mono ?_); rintro e w1 ⟨rfl, h1⟩) | (go_at_call 75; (with_reducible refine (white_any _ _).mono ?_); rintro e w1 ⟨rfl, rfl⟩) | (go_at_call 76; (with_reducible refine (whiteW_any (by repeat (first | assumption | refine Now.alloc ?_ _ | refine Now.set ?_ (by simp; omega) _))).mono ?_); rintro e w1 ⟨rfl, h1⟩) | (go_at_call 132; (with_reducible refine (bad_any (by repeat (first | assumption | refine Now.alloc ?_ _ | refine Now.set ?_ (by simp; omega) _))).mono ?_); rintro e w1 ⟨rfl, h1⟩; have hc := (h1.since HN.out).res hgo; simp only [Tok.val])))
                refine bodyPost_ret (v := Tok.val (tokQ 7 8 (false, out, badT (wh q)))) ?_ rfl ⟨by rw [HX.out], by rw [HX.out]; exact (h1.since HN.out).wrote h _ _ _ _ _ _⟩
                simp [results, Tryz.results124, go_sem, hc, Tok.val, tokQ]
          · have b4 : sWhite (ah q 0) = false := by simpa using c4
            by_cases c5 : spoil (ah q 0) = true
            · have HX := Lib.hid (hI.ill (q' := badT q) (by unfold adr; rw [dif_neg c0, if_neg c1, if_neg c3, if_neg c4, if_pos c5]))
              clear c0 c1 hI c3 c4
              go_wp2_with (first | (go_at_call 131; (with_reducible refine (closed_N hnr c0' C2.out).mono ?_); rintro e w1 ⟨rfl, h1⟩; have hs1 := h1.gw.size) | (go_at_call 74; (with_reducible refine (ahead_0 (by repeat (first | assumption | refine Now.alloc ?_ _ | refine Now.set ?_ (by simp; omega) _))).mono ?_); rintro e w1 ⟨rfl, h1⟩) | (go_at_call 103; (with_reducible refine (escapes_0 (by repeat (first | assumption | refine Now.alloc ?_ _ | refine Now.set ?_ (by simp; omega) _))).mono ?_); rintro e w1 ⟨rfl, h1⟩) | (go_at_call 75; (with_reducible refine (white_any _ _).mono ?_); rintro e w1 ⟨rfl, rfl⟩) | (go_at_call 133; refine (spoils_any _ _).mono ?_; rintro e w1 ⟨rfl, rfl⟩) | (go_at_call 132; (with_reducible refine (bad_any (by repeat (first | assumption | refine Now.alloc ?_ _ | refine Now.set ?_ (by simp; omega) _))).mono ?_); rintro e w1 ⟨rfl, h1⟩; have hc := (h1.since HN.out).res hgo; simp only [Tok.val]))
              refine bodyPost_ret (v := Tok.val (tokQ 7 8 (false, out, badT q))) ?_ rfl ⟨by rw [HX.out], by rw [HX.out]; exact (h1.since HN.out).wrote h _ _ _ _ _ _⟩
              simp [results, Tryz.results124, go_sem, hc, Tok.val, tokQ]
            · have b5 : spoil (ah q 0) = false := by simpa using c5
              have hP := hI.push (x := ah q 0) (q' := dp 1 q) (by
                conv => lhs; unfold adr
                rw [dif_neg c0, if_neg c1, if_neg c3, if_neg c4, if_neg c5]) hdl
              have HI := Lib.hid hP
              clear hP c0 c1 hI c3 c4 c5
              go_wp2_with (first | (go_at_call 131; (with_reducible refine (closed_N hnr c0' C2.out).mono ?_); rintro e w1 ⟨rfl, h1⟩; have hs1 := h1.gw.size) | (go_at_call 74; (with_reducible refine (ahead_0 (by repeat (first | assumption | refine Now.alloc ?_ _ | refine Now.set ?_ (by simp; omega) _))).mono ?_); rintro e w1 ⟨rfl, h1⟩) | (go_at_call 103; (with_reducible refine (escapes_0 (by repeat (first | assumption | refine Now.alloc ?_ _ | refine Now.set ?_ (by simp; omega) _))).mono ?_); rintro e w1 ⟨rfl, h1⟩) | (go_at_call 75; (with_reducible refine (white_any _ _).mono ?_); rintro e w1 ⟨rfl, rfl⟩) | (go_at_call 133; refine (spoils_any _ _).mono ?_; rintro e w1 ⟨rfl, rfl⟩) | (go_at_call 102; (with_reducible refine (take_any (by repeat (first | assumption | refine Now.alloc ?_ _ | refine Now.set ?_ (by simp; omega) _)) hlq).mono ?_); rintro e w1 ⟨rfl, h1⟩; have hs1 := h1.gw.size) | (at_builtin; refine wpList_append_own _ rfl _ _ 59 rfl (w.alloc zeroT).heap.size 21 i0 (.int .i32 0) 1 4 Tryz.underlying59 hi hz0 hz1 hz2 rfl (by decide) _ _ _ rfl ((ho.keeps h1 hgB).alloc _) ⟨_, 0, none⟩ 1 1 [.int .i32 _] rfl rfl (cell_one_new _ _ _) (fun u hu => by simp at hu; subst hu; rfl) (by unfold maxLen; omega) (by omega) (by simp at hws ⊢; omega) ?_; intro v' w4 ho4 hg4 _))
              obtain ⟨p1, p2⟩ := Txt.push ho HN.out h1 ho4 hg4
              go_roundw
              case rel => exact ⟨_, _, HI.out, p1, p2⟩
              case measure => rw [p2.left, HN.out.left]; omega
end
end Go.Proofs.YtfggpenfdfklkaaGreat
namespace Go.Proofs.YtfggpenfdfklkaaGreat
open Go.RowKit
section
variable {g : Nat} {v : Value} {xs r : List Int} {w0 w : World}
theorem skip_back (h : Now 80 g v xs r w0 w) (r' : List Int) (hs : r' <:+ xs) (hl : r'.length = r.length + 1) :
    Calls Tryz.prog 72 #[.pointer (some ⟨g, 0, none⟩), .int .i64 (-1)] w fun e w' => e = .returned (.tuple #[]) ∧ Now 80 g v xs r' w0 w' :=
  (skip_to h.st (-1) r' hs (by have := hs.length_le; omega)).mono fun _ _ ⟨he, hw⟩ => ⟨he, hw ▸ h.go hs rfl⟩
theorem wh_back (t : List Int) (h : (wh t).length < t.length) : (dp (t.length - (wh t).length - 1) t).length = (wh t).length + 1 := by rw [dp_len]; omega
theorem wh_same (t : List Int) (h : ¬ (wh t).length < t.length) : dp (t.length - (wh t).length - 1) t = wh t := by
  have h1 := wh_suf t
  have h2 := wh_len t
  rw [show t.length - (wh t).length - 1 = 0 by omega]
  exact (h1.eq_of_length (by omega)).symm

set_option maxRecDepth 100000 in
set_option maxHeartbeats 800000 in
theorem url_any (h : Now 80 g v xs r w0 w) (name : ByteArray) (hl : 1 ≤ r.length) :
    Calls Tryz.prog 112 #[.pointer (some ⟨g, 0, none⟩), .string name] w fun e w' => e = .returned (urlT name r).1.val ∧ Now 80 g v xs (urlT name r).2 w0 w' := by
  have hA := (h.alloc zeroT).st.now
  have hgo := h.st.lt
  have hrl := h.st.rlen'
  have hdl := dp_len 1 r
  have hwl := wh_len (dp 1 r)
  have hds : dp 1 r <:+ xs := (dp_suf 1 r).trans h.st.suf
  by_cases c : ah (wh (dp 1 r)) 0 = 34 ∨ ah (wh (dp 1 r)) 0 = 39
  · have e : urlT name r = ({ kind := 2, text := name }, dp ((dp 1 r).length - (wh (dp 1 r)).length - 1) (dp 1 r)) := by unfold urlT; rw [if_pos c]
    rw [e]
    clear e
    by_cases hk : (wh (dp 1 r)).length < (dp 1 r).length
    · have hb := wh_back _ hk
      have hs2 : dp ((dp 1 r).length - (wh (dp 1 r)).length - 1) (dp 1 r) <:+ xs := (dp_suf _ _).trans hds
      have HB := Lib.hid hb
      have HD := Lib.hid hdl
      clear hb hdl
      rcases c with c | c
      · have b1 : (ah (wh (dp 1 r)) 0 != 34) = false := by simp [c]
        clear c
        go_enter Tryz.func112, Tryz.ntmps112
        go_wp2_with (first | (go_at_call 72; (with_reducible refine (skip_back h1 _ hs2 HB.out).mono ?_); rintro e w1 ⟨rfl, h1⟩; have hc := h1.res hgo) | (go_at_call 76; (with_reducible refine (whiteW_any h1).mono ?_); rintro e w1 ⟨rfl, h1⟩) | (first | (go_at_call 102; (with_reducible refine (take_any (by first | assumption | exact hA) hl).mono ?_); rintro e w1 ⟨rfl, h1⟩) | (go_at_call 74; (with_reducible refine (ahead_0 (by repeat (first | assumption | refine Now.alloc ?_ _ | refine Now.set ?_ (by simp; omega) _))).mono ?_); rintro e w1 ⟨rfl, h1⟩)))
        refine bodyPost_ret (v := Tok.val { kind := 2, text := name }) ?_ rfl ⟨rfl, h1.wrote h _ _ _ _ _ _⟩
        simp [results, Tryz.results112, go_sem, hc, Tok.val]
      · have b1 : (ah (wh (dp 1 r)) 0 != 34) = true := by simp [c]
        have b2 : (ah (wh (dp 1 r)) 0 != 39) = false := by simp [c]
        clear c
        go_enter Tryz.func112, Tryz.ntmps112
        go_wp2_with (first | (go_at_call 72; (with_reducible refine (skip_back h1 _ hs2 HB.out).mono ?_); rintro e w1 ⟨rfl, h1⟩; have hc := h1.res hgo) | (go_at_call 76; (with_reducible refine (whiteW_any h1).mono ?_); rintro e w1 ⟨rfl, h1⟩) | (first | (go_at_call 102; (with_reducible refine (take_any (by first | assumption | exact hA) hl).mono ?_); rintro e w1 ⟨rfl, h1⟩) | (go_at_call 74; (with_reducible refine (ahead_0 (by repeat (first | assumption | refine Now.alloc ?_ _ | refine Now.set ?_ (by simp; omega) _))).mono ?_); rintro e w1 ⟨rfl, h1⟩)))
        refine bodyPost_ret (v := Tok.val { kind := 2, text := name }) ?_ rfl ⟨rfl, h1.wrote h _ _ _ _ _ _⟩
        simp [results, Tryz.results112, go_sem, hc, Tok.val]
    · rw [wh_same _ hk]
      have hle : (dp 1 r).length ≤ (wh (dp 1 r)).length := by omega
      have HD := Lib.hid hdl
      clear hdl hk
      rcases c with c | c
      · have b1 : (ah (wh (dp 1 r)) 0 != 34) = false := by simp [c]
        clear c
        go_enter Tryz.func112, Tryz.ntmps112
        go_wp2_with (first | (go_at_call 76; (with_reducible refine (whiteW_any h1).mono ?_); rintro e w1 ⟨rfl, h1⟩) | (go_at_call 74; (with_reducible refine (ahead_0 h1).mono ?_); rintro e w1 ⟨rfl, h1⟩; have hc := h1.res hgo) | (first | (go_at_call 102; (with_reducible refine (take_any (by first | assumption | exact hA) hl).mono ?_); rintro e w1 ⟨rfl, h1⟩)))
        refine bodyPost_ret (v := Tok.val { kind := 2, text := name }) ?_ rfl ⟨rfl, h1.wrote h _ _ _ _ _ _⟩
        simp [results, Tryz.results112, go_sem, hc, Tok.val]
      · have b1 : (ah (wh (dp 1 r)) 0 != 34) = true := by simp [c]
        have b2 : (ah (wh (dp 1 r)) 0 != 39) = false := by simp [c]
        clear c
        go_enter Tryz.func112, Tryz.ntmps112
        go_wp2_with (first | (go_at_call 76; (with_reducible refine (whiteW_any h1).mono ?_); rintro e w1 ⟨rfl, h1⟩) | (go_at_call 74; (with_reducible refine (ahead_0 h1).mono ?_); rintro e w1 ⟨rfl, h1⟩; have hc := h1.res hgo) | (first | (go_at_call 102; (with_reducible refine (take_any (by first | assumption | exact hA) hl).mono ?_); rintro e w1 ⟨rfl, h1⟩)))
        refine bodyPost_ret (v := Tok.val { kind := 2, text := name }) ?_ rfl ⟨rfl, h1.wrote h _ _ _ _ _ _⟩
        simp [results, Tryz.results112, go_sem, hc, Tok.val]
  · have e : urlT name r = (tokQ 7 8 (adr (wh (dp 1 r))), (adr (wh (dp 1 r))).2.2) := by unfold urlT; rw [if_neg c]
    rw [e]
    clear e
    have b1 : (ah (wh (dp 1 r)) 0 != 34) = true := by simp; intro h; exact c (.inl h)
    have b2 : (ah (wh (dp 1 r)) 0 != 39) = true := by simp; intro h; exact c (.inr h)
    have HD := Lib.hid hdl
    clear c hdl
    go_enter Tryz.func112, Tryz.ntmps112
    go_wp2_with (first | (go_at_call 76; (with_reducible refine (whiteW_any h1).mono ?_); rintro e w1 ⟨rfl, h1⟩) | (go_at_call 124; (with_reducible refine (address_any h1).mono ?_); rintro e w1 ⟨rfl, h1⟩; have hc := h1.res hgo; simp only [Tok.val]) | (first | (go_at_call 102; (with_reducible refine (take_any (by first | assumption | exact hA) hl).mono ?_); rintro e w1 ⟨rfl, h1⟩) | (go_at_call 74; (with_reducible refine (ahead_0 (by repeat (first | assumption | refine Now.alloc ?_ _ | refine Now.set ?_ (by simp; omega) _))).mono ?_); rintro e w1 ⟨rfl, h1⟩)))
    refine bodyPost_ret (v := Tok.val (tokQ 7 8 (adr (wh (dp 1 r))))) ?_ rfl ⟨rfl, h1.wrote h _ _ _ _ _ _⟩
    simp [results, Tryz.results112, go_sem, hc, Tok.val]

set_option maxRecDepth 100000 in
set_option maxHeartbeats 800000 in
theorem ident_any (h : Now 80 g v xs r w0 w) :
    Calls Tryz.prog 83 #[.pointer (some ⟨g, 0, none⟩)] w fun e w' => e = .returned (identT r).1.val ∧ Now 80 g v xs (identT r).2 w0 w' := by
  have hA := (h.alloc zeroT).st.now
  have hgo := h.st.lt
  have hrl := h.st.rlen'
  have hnl := nm_length r.length r
  have hsz : (runesBytes (nm r).1).size ≤ 1000000000 := by
    have := runesBytes_size_le (nm r).1
    unfold nm at this ⊢
    omega
  by_cases c : ah (nm r).2 0 ≠ 40
  · have e : identT r = ({ kind := 1, text := runesBytes (nm r).1 }, (nm r).2) := by unfold identT; rw [if_pos c]
    rw [e]
    have b1 : (ah (nm r).2 0 != 40) = true := by simp [c]
    clear e c
    go_enter Tryz.func83, Tryz.ntmps83
    go_wp2_with (first | (go_at_call 106; (with_reducible refine (nameW_any hA).mono ?_); rintro e w1 ⟨rfl, h1⟩) | (go_at_call 74; (with_reducible refine (ahead_0 h1).mono ?_); rintro e w1 ⟨rfl, h1⟩; have hc := h1.res hgo))
    refine bodyPost_ret (v := Tok.val { kind := 1, text := runesBytes (nm r).1 }) ?_ rfl ⟨rfl, h1.wrote h _ _ _ _ _ _⟩
    simp [results, Tryz.results83, go_sem, hc, Tok.val]
  · have b1 : (ah (nm r).2 0 != 40) = false := by simpa using c
    have hl2 : 1 ≤ (nm r).2.length := len_of_ah (n := 0) (by intro e; apply c; rw [e]; decide)
    by_cases c2 : ((lowS (runesBytes (nm r).1)).toList == [117, 114, 108]) = true
    · have e : identT r = urlT (runesBytes (nm r).1) (nm r).2 := by unfold identT; rw [if_neg c, if_pos c2]
      rw [e]
      clear e c
      go_enter Tryz.func83, Tryz.ntmps83
      go_wp2_with (first | (go_at_call 106; (with_reducible refine (nameW_any hA).mono ?_); rintro e w1 ⟨rfl, h1⟩) | (go_at_call 56; (with_reducible refine (lower_any _ _ hsz).mono ?_); rintro e w2 ⟨rfl, hb2⟩; have h2 := h1.below hb2) | (go_at_call 112; (with_reducible refine (url_any h2 _ hl2).mono ?_); rintro e w1 ⟨rfl, h1⟩; have hc := h1.res hgo; simp only [Tok.val]) | (first | (go_at_call 74; (with_reducible refine (ahead_0 (by repeat (first | assumption | refine Now.alloc ?_ _ | refine Now.set ?_ (by simp; omega) _))).mono ?_); rintro e w1 ⟨rfl, h1⟩)))
      refine bodyPost_ret (v := Tok.val (urlT (runesBytes (nm r).1) (nm r).2).1) ?_ rfl ⟨rfl, h1.wrote h _ _ _ _ _ _⟩
      simp [results, Tryz.results83, go_sem, hc, Tok.val]
    · have e : identT r = ({ kind := 2, text := runesBytes (nm r).1 }, dp 1 (nm r).2) := by unfold identT; rw [if_neg c, if_neg c2]
      rw [e]
      clear e c
      have b2 : ((lowS (runesBytes (nm r).1)).toList == [117, 114, 108]) = false := by simpa using c2
      clear c2
      go_enter Tryz.func83, Tryz.ntmps83
      go_wp2_with (first | (go_at_call 106; (with_reducible refine (nameW_any hA).mono ?_); rintro e w1 ⟨rfl, h1⟩) | (go_at_call 56; (with_reducible refine (lower_any _ _ hsz).mono ?_); rintro e w2 ⟨rfl, hb2⟩; have h2 := h1.below hb2) | (go_at_call 102; (with_reducible refine (take_any h2 hl2).mono ?_); rintro e w1 ⟨rfl, h1⟩; have hc := h1.res hgo) | (first | (go_at_call 74; (with_reducible refine (ahead_0 (by repeat (first | assumption | refine Now.alloc ?_ _ | refine Now.set ?_ (by simp; omega) _))).mono ?_); rintro e w1 ⟨rfl, h1⟩)))
      refine bodyPost_ret (v := Tok.val { kind := 2, text := runesBytes (nm r).1 }) ?_ rfl ⟨rfl, h1.wrote h _ _ _ _ _ _⟩
      simp [results, Tryz.results83, go_sem, hc, Tok.val]
end
end Go.Proofs.YtfggpenfdfklkaaGreat
namespace Go.Proofs.YtfggpenfdfklkaaGreat
open Go.RowKit

theorem digV_bd (l : List Int) : 0 ≤ digV l ∧ digV l ≤ 2147483648 ∨ ¬ l.all sDigit = true := by
  by_cases h : l.all sDigit = true
  · left
    unfold digV
    suffices H : ∀ (l : List Int) (n : Int), l.all sDigit = true → 0 ≤ n ∧ n ≤ 2147483648 → 0 ≤ l.foldl (fun n x => min (n * 10 + (x - 48)) 2147483648) n ∧ l.foldl (fun n x => min (n * 10 + (x - 48)) 2147483648) n ≤ 2147483648 by
      exact H l 0 h (by omega)
    intro l
    induction l with
    | nil => intro n _ hn; exact hn
    | cons a l ih =>
      intro n hl hn
      simp only [List.all_cons, Bool.and_eq_true] at hl
      rw [List.foldl_cons]
      refine ih _ hl.2 ?_
      have := hl.1
      simp only [sDigit, decide_eq_true_eq] at this
      omega
  · exact .inr h

theorem digR_bd (l : List Int) : 0 ≤ digR l ∧ digR l ≤ 2147483648 := by
  unfold digR
  split
  · rcases digV_bd l with h | h
    · exact h
    · exact absurd ‹_› h
  · omega

theorem take_step (s : ByteArray) (pos : Nat) (h : pos < s.data.size) : (nums s).take (pos + 1) = (nums s).take pos ++ [((s.data[pos]).toNat : Int)] := by
  have hl : pos < (nums s).length := by rw [nums_length]; exact h
  rw [List.take_succ_eq_append_getElem hl]
  congr 2
  have := nums_at s pos h
  simpa [nth, List.getD_eq_getElem?_getD, List.getElem?_eq_getElem hl] using this

theorem high_any (s : ByteArray) (pos : Nat) (h : pos < s.size) (hb : 128 ≤ (s.data[pos]'h).toNat) : 128 ≤ (Utf8.decode s pos).1 := by
  exact (decode_high s pos h hb).1

set_option maxRecDepth 100000 in
set_option maxHeartbeats 800000 in
theorem digits_any (s : ByteArray) (w : World) (_ : s.size ≤ 1000000000) :
    Calls Tryz.prog 130 #[.string s] w fun e w' => e = .returned (.tuple #[.int .i64 (digR (nums s)), .bool (digOk (nums s))]) ∧ Below w.heap.size w w' := by
  go_enter Tryz.func130, Tryz.ntmps130
  go_wp2
  have hk0 : (w.iter s 0).heap[w.heap.size]? = some (.stringIter s 0) := World.iter_heap w _ 0
  have hb0 : Below w.heap.size w (w.iter s 0) := (Below.refl _ w).alloc (Nat.le_refl _) _
  go_loopw [4, 6] (fun nv _ wr => ∃ pos, pos ≤ s.size ∧ nv = .int .i64 (digV ((nums s).take pos)) ∧ ((nums s).take pos).all sDigit = true ∧ wr.heap[w.heap.size]? = some (.stringIter s pos) ∧ Below w.heap.size w wr) (fun _ _ wr => s.size - wr.iterPos w.heap.size)
  case atStart => exact ⟨0, Nat.zero_le _, rfl, rfl, hk0, hb0⟩
  case round =>
    obtain ⟨pos, hps, rfl, hall, hk, hb⟩ := hrel
    have HALL := Lib.hid hall
    have hbd : 0 ≤ digV ((nums s).take pos) ∧ digV ((nums s).take pos) ≤ 2147483648 := by
      rcases digV_bd ((nums s).take pos) with h | h
      · exact h
      · exact absurd hall h
    obtain ⟨hb1, hb2⟩ := hbd
    clear hk0 hb0 hall
    by_cases hp : pos < s.size
    · have hpd : pos < s.data.size := hp
      have hnx : ∀ ty, (Instr.next (.pointer (some ⟨w.heap.size, 0, none⟩)) true ty).run Tryz.prog wr = _ := fun ty => Lib.run_next_any_at wr _ _ pos ty hk hp
      have hwd := width_pos _ pos hp
      have hk1 := Lib.iterAt_heap wr w.heap.size s pos (pos + (Utf8.decode s pos).2) hk
      have hbl := Lib.below_iterAt hb (Nat.le_refl _) s (pos + (Utf8.decode s pos).2)
      have hts := take_step s pos hpd
      generalize hW : wr.iterAt w.heap.size s (pos + (Utf8.decode s pos).2) = W1 at hnx hk1 hbl
      clear hW
      by_cases hd : sDigit ((s.data[pos]).toNat : Int) = true
      · have hlo : 48 ≤ ((s.data[pos]).toNat : Int) ∧ ((s.data[pos]).toNat : Int) ≤ 57 := by simpa [sDigit] using hd
        have hdec : Utf8.decode s pos = ((s.data[pos]).toNat, 1) := decode_ascii s pos hp (by show (s.data[pos]).toNat < 128; omega)
        rw [hdec] at hnx hk1
        simp only at hnx hk1
        generalize ((s.data[pos]).toNat : Int) = x at *
        have hv : digV ((nums s).take (pos + 1)) = min (digV ((nums s).take pos) * 10 + (x - 48)) 2147483648 := by rw [hts]; simp [digV, List.foldl_append]
        have ha2 : ((nums s).take (pos + 1)).all sDigit = true := by rw [hts, List.all_append, HALL.out]; simp [hd]
        have HV := Lib.hid hv
        have HA2 := Lib.hid ha2
        obtain ⟨hlo1, hlo2⟩ := hlo
        clear hv ha2 hts hdec
        generalize digV ((nums s).take pos) = n at *
        go_wp2_with (first | (go_at_call 108; (with_reducible refine (digit_any _ _).mono ?_); rintro e w1 ⟨rfl, rfl⟩))
        go_roundw
        case rel => exact ⟨pos + 1, by omega, by rw [HV.out]; congr 1; rw [Int.min_def]; split <;> split <;> omega, HA2.out, hk1, hbl⟩
        case measure => exact meas_skip hk hk1 (Nat.le_refl _) hp
      · have hnd : sDigit ((Utf8.decode s pos).1 : Int) = false := by
          by_cases hb : (s.data[pos]).toNat < 128
          · have hdec : Utf8.decode s pos = ((s.data[pos]).toNat, 1) := decode_ascii s pos hp hb
            rw [hdec]
            simpa using hd
          · have := (decode_high s pos hp (by show 128 ≤ (s.data[pos]).toNat; omega)).1
            unfold sDigit
            simp
            omega
        have hna : (nums s).all sDigit = false := by
          rw [List.all_eq_false]
          have hl : pos < (nums s).length := by rw [nums_length]; exact hp
          refine ⟨(nums s)[pos], List.getElem_mem hl, ?_⟩
          have := nums_at s pos hpd
          rw [show (nums s)[pos] = ((s.data[pos]).toNat : Int) by simpa [nth, List.getD_eq_getElem?_getD, List.getElem?_eq_getElem hl] using this]
          exact hd
        have e1 : digR (nums s) = 0 := by unfold digR; rw [hna]; rfl
        have e2 : digOk (nums s) = false := by unfold digOk; rw [hna]; rfl
        have E1 := Lib.hid e1
        have E2 := Lib.hid e2
        generalize Utf8.decode s pos = D at *
        clear e1 e2 hna hts hd
        go_wp2_with (first | (go_at_call 108; (with_reducible refine (digit_any _ _).mono ?_); rintro e w1 ⟨rfl, rfl⟩))
        go_ret2
        rw [E1.out, E2.out]
        exact ⟨rfl, hbl⟩
    · have hnx : ∀ ty, (Instr.next (.pointer (some ⟨w.heap.size, 0, none⟩)) true ty).run Tryz.prog wr = _ := fun ty => Lib.run_next_end_at wr _ _ pos ty hk hp
      have htk : (nums s).take pos = nums s := List.take_of_length_le (by rw [nums_length]; omega)
      have hal := HALL.out
      rw [htk] at hal
      have e1 : digR (nums s) = digV ((nums s).take pos) := by unfold digR; rw [hal, htk]; rfl
      have e2 : digOk (nums s) = !(nums s).isEmpty := by unfold digOk; rw [hal]; rfl
      have E1 := Lib.hid e1
      have E2 := Lib.hid e2
      clear e1 e2 htk HALL hal
      go_wp2
      go_ret2
      rw [E1.out, E2.out]
      have e3 : s.toList.isEmpty = (nums s).isEmpty := by rw [ByteArray.toList_eq]; unfold nums; cases s.data.toList <;> rfl
      exact ⟨by rw [← e3]; rfl, hb⟩

theorem nums_from (s : ByteArray) : nums (s.extract 1 s.size) = (nums s).tail := by
  unfold nums
  rw [← List.map_tail]
  congr 1
  have : (s.extract 1 s.size).data.toList = s.data.toList.drop 1 := by
    rw [Lib.extract_data, List.take_of_length_le]
    rw [List.length_drop, Array.length_toList]
    exact Nat.le_refl _
  rw [this, List.drop_one]

set_option maxRecDepth 100000 in
set_option maxHeartbeats 800000 in
theorem int_any (s : ByteArray) (w : World) (hs : s.size ≤ 1000000000) :
    Calls Tryz.prog 123 #[.string s] w fun e w' => e = .returned (.int .i64 (intV (nums s))) ∧ Below w.heap.size w w' := by
  by_cases h0 : s.size = 0
  · have hn : nums s = [] := List.eq_nil_of_length_eq_zero (by rw [nums_length]; exact h0)
    have he : s.toList.isEmpty = true := by
      rw [ByteArray.toList_eq]
      have : s.data.toList.length = 0 := by rw [Array.length_toList]; exact h0
      simpa using List.eq_nil_of_length_eq_zero this
    have e1 : intV (nums s) = 0 := by rw [hn]; decide
    have e2 : digR (nums s) = 0 := by rw [hn]; decide
    have e3 : digOk (nums s) = false := by rw [hn]; decide
    rw [e1]
    clear hn e1 h0
    go_enter Tryz.func123, Tryz.ntmps123
    go_wp2_with (go_at_call 130; refine (digits_any s _ hs).mono ?_; rintro e w1 ⟨rfl, hb1⟩)
    go_ret
    exact ⟨rfl, hb1⟩
  · have hpos : 0 < s.size := by omega
    have hposd : 0 < s.data.size := hpos
    have he : s.toList.isEmpty = false := by
      rw [ByteArray.toList_eq]
      have : s.data.toList.length ≠ 0 := by rw [Array.length_toList]; exact h0
      simp
      intro hc
      rw [hc] at this
      simp at this
    have hsz2 : (s.extract 1 s.size).size ≤ 1000000000 := by rw [ByteArray.size_extract]; omega
    have hcons : nums s = ((s.data[0]).toNat : Int) :: (nums s).tail := by
      have hl : 0 < (nums s).length := by rw [nums_length]; exact hpos
      have h1 := nums_at s 0 hposd
      cases hh : nums s with
      | nil => rw [hh] at hl; simp at hl
      | cons a t =>
        rw [hh] at h1
        simp only [nth, List.getD_cons_zero] at h1
        rw [h1]
        rfl
    have hnf := nums_from s
    have HC := Lib.hid hcons
    have HNF := Lib.hid hnf
    clear hcons hnf
    have k45 : ((s.data[0]).toNat : Int) = 45 → intV (nums s) = if digOk (nums (s.extract 1 s.size)) then - digR (nums (s.extract 1 s.size)) else 0 := by
      intro h
      rw [HNF.out]
      unfold intV
      rw [HC.out, h]
      rfl
    have k43 : ((s.data[0]).toNat : Int) = 43 → intV (nums s) = if digOk (nums (s.extract 1 s.size)) then min (digR (nums (s.extract 1 s.size))) 2147483647 else 0 := by
      intro h
      rw [HNF.out]
      unfold intV
      rw [HC.out, h]
      rfl
    have k0 : ¬ ((s.data[0]).toNat : Int) = 45 → ¬ ((s.data[0]).toNat : Int) = 43 → intV (nums s) = if digOk (nums s) then min (digR (nums s)) 2147483647 else 0 := by
      intro h1 h2
      unfold intV
      rw [if_neg (by rw [HC.out]; simpa using h1), if_neg (by rw [HC.out]; simpa using h2)]
    obtain ⟨hd1, hd2⟩ := digR_bd (nums s)
    obtain ⟨hd3, hd4⟩ := digR_bd (nums (s.extract 1 s.size))
    by_cases h45 : ((s.data[0]).toNat : Int) = 45
    · have HK := Lib.hid (k45 h45)
      have b1 : ((s[0].toNat : Int) == 43) = false := by show ((s.data[0].toNat : Int) == 43) = false; simp [h45]
      have b2 : ((s[0].toNat : Int) == 45) = true := by show ((s.data[0].toNat : Int) == 45) = true; simp [h45]
      clear k0 k43 k45 h45 hd1 hd2
      go_enter Tryz.func123, Tryz.ntmps123
      go_wp2_with (go_at_call 130; (with_reducible refine (digits_any _ _ hsz2).mono ?_); rintro e w1 ⟨rfl, hb1⟩)
      all_goals go_ret
      all_goals refine ⟨ret_int ?_, hb1⟩
      all_goals rw [HK.out]
      all_goals simp_all
    · by_cases h43 : ((s.data[0]).toNat : Int) = 43
      · have HK := Lib.hid (k43 h43)
        have b1 : ((s[0].toNat : Int) == 43) = true := by show ((s.data[0].toNat : Int) == 43) = true; simp [h43]
        have b3 : (s[0].toNat : Int) = 43 := h43
        have b2 : ((s[0].toNat : Int) == 45) = false := by show ((s.data[0].toNat : Int) == 45) = false; simp [h43]
        clear k0 k43 k45 h45 hd1 hd2 h43
        go_enter Tryz.func123, Tryz.ntmps123
        go_wp2_with (go_at_call 130; (with_reducible refine (digits_any _ _ hsz2).mono ?_); rintro e w1 ⟨rfl, hb1⟩)
        all_goals go_ret
        all_goals refine ⟨ret_int ?_, hb1⟩
        all_goals rw [HK.out]
        all_goals grind
      · have HK := Lib.hid (k0 h45 h43)
        have b1 : ((s[0].toNat : Int) == 43) = false := by show ((s.data[0].toNat : Int) == 43) = false; simp [h43]
        have b2 : ((s[0].toNat : Int) == 45) = false := by show ((s.data[0].toNat : Int) == 45) = false; simp [h45]
        clear k0 k43 k45 h45 hd3 hd4 h43
        go_enter Tryz.func123, Tryz.ntmps123
        go_wp2_with (go_at_call 130; (with_reducible refine (digits_any _ _ hs).mono ?_); rintro e w1 ⟨rfl, hb1⟩)
        all_goals go_ret
        all_goals refine ⟨ret_int ?_, hb1⟩
        all_goals rw [HK.out]
        all_goals grind
end Go.Proofs.YtfggpenfdfklkaaGreat
namespace Go.Proofs.YtfggpenfdfklkaaGreat
open Go.RowKit

/-- A token's cells at block b. -/
def TokB (b : Nat) (t : Tok) (w : World) : Prop := w.heap[b]? = some (.cells #[.int .i64 t.kind, .string t.text, .int .i64 t.int, .bool t.whole, .bool t.sign, .bool t.id] 47 (0, 0))

section
variable {T : TypeId} {g b : Nat} {v : Value} {xs r : List Int} {w0 w w1 : World} {t : Tok}
theorem TokB.cells (h : TokB b t w) :
    w.cell? ⟨b, 0, none⟩ = some (.int .i64 t.kind) ∧ w.cell? ⟨b, 1, none⟩ = some (.string t.text) ∧ w.cell? ⟨b, 2, none⟩ = some (.int .i64 t.int) ∧
    w.cell? ⟨b, 3, none⟩ = some (.bool t.whole) ∧ w.cell? ⟨b, 4, none⟩ = some (.bool t.sign) ∧ w.cell? ⟨b, 5, none⟩ = some (.bool t.id) ∧
    w.frozen? ⟨b, 0, none⟩ = false ∧ w.frozen? ⟨b, 1, none⟩ = false ∧ w.frozen? ⟨b, 2, none⟩ = false ∧
    w.frozen? ⟨b, 3, none⟩ = false ∧ w.frozen? ⟨b, 4, none⟩ = false ∧ w.frozen? ⟨b, 5, none⟩ = false := by
  unfold TokB at h
  refine ⟨?_, ?_, ?_, ?_, ?_, ?_, ?_, ?_, ?_, ?_, ?_, ?_⟩ <;> simp [World.cell?, World.frozen?, h]
theorem TokB.lt (h : TokB b t w) : b < w.heap.size := (Array.getElem?_eq_some_iff.1 h).1
theorem TokB.keep (h : TokB b t w0) (hn : Now T g v xs r w0 w) (hne : g < b) : TokB b t w := by
  unfold TokB at h ⊢
  rw [hn.gw.block b (TokB.lt h) (by intro e; injection e; omega)]
  exact h
theorem TokB.alloc (h : TokB b t w) (o : Obj) : TokB b t (w.alloc o) := by
  unfold TokB at h ⊢
  rw [Below.heap_alloc _ _ _ (TokB.lt h)]
  exact h
theorem TokB.other (h : TokB b t w) {p : Addr} (hp : b ≠ p.block) (u : Value) : TokB b t (w.setCell p u) := by
  unfold TokB at h ⊢
  rw [Below.heap_setCell _ _ _ _ hp]
  exact h
theorem TokB.whole (h : TokB b t w) (x : Bool) : TokB b { t with whole := x } (w.setCell ⟨b, 3, none⟩ (.bool x)) := by
  unfold TokB at h ⊢
  simp [World.setCell, Array.getElem?_modify, h]
theorem TokB.int (h : TokB b t w) (x : Int) : TokB b { t with int := x } (w.setCell ⟨b, 2, none⟩ (.int .i64 x)) := by
  unfold TokB at h ⊢
  simp [World.setCell, Array.getElem?_modify, h]
theorem TokB.zero (w : World) : TokB w.heap.size { kind := 0 } (w.alloc zeroT) := by
  unfold TokB
  exact heap_alloc_self _ _
end

theorem Now.put6 {T : TypeId} {g b : Nat} {v : Value} {xs r : List Int} {w0 w : World} (h : Now T g v xs r w0 w) (hs : w0.heap.size ≤ b) (x0 x1 x2 x3 x4 x5 : Value) :
    Now T g v xs r w0 ((((((w.setCell ⟨b, 0, none⟩ x0).setCell ⟨b, 1, none⟩ x1).setCell ⟨b, 2, none⟩ x2).setCell ⟨b, 3, none⟩ x3).setCell ⟨b, 4, none⟩ x4).setCell ⟨b, 5, none⟩ x5) :=
  (((((h.set hs x0).set hs x1).set hs x2).set hs x3).set hs x4).set hs x5
/-- The signs from one place to another. -/
theorem St.seg {T : TypeId} {g : Nat} {v : Value} {xs r : List Int} {w : World} (h : St T g v xs r w) (n : Nat) (hn : n ≤ r.length) :
    (xs.drop (xs.length - r.length)).take (xs.length - n - (xs.length - r.length)) = r.take (r.length - n) := by
  rw [h.drop_eq]
  congr 1
  have := h.rlen
  omega
theorem segConv (b off c i j : Nat) (xs : List Int) (hij : i ≤ j) (hj : j ≤ xs.length) :
    ∀ (W : World), (∀ k, k < xs.length → W.cell? ⟨b, off + k, none⟩ = some (.int .i32 (nth xs k))) → (convert 59 9 (.slice (some ⟨b, off + i, none⟩) (j - i) (c - i))).run Tryz.prog W = .ok (.string (runesBytes ((xs.drop i).take (j - i)))) W := by
  intro W hW
  have := run_convert_runes (P := Tryz.prog) W 59 9 21 ⟨b, off + i, none⟩ (j - i) (c - i) ((xs.drop i).take (j - i)) (by rw [List.length_take, List.length_drop]; omega) Tryz.underlying59 Tryz.underlying21 Tryz.underlying9 (fun k hk => by
    rw [List.length_take, List.length_drop] at hk
    have hadd : (⟨b, off + i, none⟩ : Addr).add k = ⟨b, off + (i + k), none⟩ := by unfold Addr.add; split <;> simp_all <;> omega
    rw [hadd, hW (i + k) (by omega)]
    congr 2
    simp only [nth, List.getD_eq_getElem?_getD, List.getElem?_take, List.getElem?_drop]
    rw [if_pos (by omega)])
  rw [List.take_of_length_le (by rw [List.length_take]; omega)] at this
  exact this
theorem frac_len {r : List Int} (h : frac r 0 = true) : 1 ≤ r.length := len_of_ah (n := 0) (by intro e; simp [frac, e] at h)
theorem expo_len (r : List Int) : expo r ≤ r.length := by
  unfold expo
  split
  · split
    · split
      · have := len_of_digit ‹sDigit (ah r 2) = true›; omega
      · omega
    · split
      · have := len_of_digit ‹sDigit (ah r 1) = true›; omega
      · omega
  · omega
end Go.Proofs.YtfggpenfdfklkaaGreat
