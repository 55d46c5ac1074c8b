
import Derived.Test.YtlajkfnlkkgneaaTkH
namespace Go.Proofs.Ytlajkfnlkkgneaa
open Go.RowKit
section
variable {g : Nat} {v : Value} {xs r : List Int} {w0 w : World}
set_option maxRecDepth 100000 in
set_option maxHeartbeats 800000 in
theorem atWord_any (h : Now 38 g v xs r w0 w) (hl : 1 ≤ r.length) :
    Calls Try.prog 23 #[.pointer (some ⟨g, 0, none⟩)] w fun e w' => e = .returned (atT r).1.val ∧ Now 38 g v xs (atT r).2 w0 w' := by
  have hA := (h.alloc zeroT).st.now
  have hgo := h.st.lt
  by_cases hb : nbg r 1 = true
  · have e : atT r = ({ kind := 3, text := runesBytes (nm (dp 1 r)).1 }, (nm (dp 1 r)).2) := by unfold atT; rw [if_pos hb]
    rw [e]
    clear e
    go_enter Try.func23, Try.ntmps23
    go_wp2_with (first | (go_at_call 26; (with_reducible refine (nbg_1 (by first | assumption | exact hA)).mono ?_); rintro e w1 ⟨rfl, h1⟩) | (go_at_call 30; (with_reducible refine (take_any (by first | assumption | exact hA) hl).mono ?_); rintro e w1 ⟨rfl, h1⟩) | (go_at_call 34; (with_reducible refine (nameW_any (by first | assumption | exact hA)).mono ?_); rintro e w1 ⟨rfl, h1⟩; have hc := h1.res hgo))
    refine bodyPost_ret (v := Tok.val { kind := 3, text := runesBytes (nm (dp 1 r)).1 }) ?_ rfl ⟨rfl, h1.wrote h _ _ _ _ _ _⟩
    simp [results, Try.results23, go_sem, hc, Tok.val]
  · have e : atT r = (markT (ah r 0), dp 1 r) := by unfold atT; rw [if_neg hb]
    have hb2 : nbg r 1 = false := by simpa using hb
    clear hb
    rw [e]
    clear e
    go_enter Try.func23, Try.ntmps23
    go_wp2_with (first | (go_at_call 26; (with_reducible refine (nbg_1 (by first | assumption | exact hA)).mono ?_); rintro e w1 ⟨rfl, h1⟩) | (go_at_call 28; (with_reducible refine (mark_any (by first | assumption | exact hA) hl).mono ?_); rintro e w1 ⟨rfl, h1⟩; have hc := h1.res hgo; simp only [Tok.val]))
    refine bodyPost_ret (v := (markT (ah r 0)).val) ?_ rfl ⟨rfl, h1.wrote h _ _ _ _ _ _⟩
    simp [results, Try.results23, go_sem, hc, Tok.val]
set_option maxRecDepth 100000 in
set_option maxHeartbeats 800000 in
theorem hash_any (h : Now 38 g v xs r w0 w) (hl : 1 ≤ r.length) :
    Calls Try.prog 22 #[.pointer (some ⟨g, 0, none⟩)] w fun e w' => e = .returned (hashT r).1.val ∧ Now 38 g v xs (hashT r).2 w0 w' := by
  have hA := (h.alloc zeroT).st.now
  have hgo := h.st.lt
  by_cases hb : (sName (ah r 1) || esc r 1) = true
  · have e : hashT r = ({ kind := 4, text := runesBytes (nm (dp 1 r)).1, id := nbg (dp 1 r) 0 }, (nm (dp 1 r)).2) := by unfold hashT; rw [if_pos hb]
    rw [e]
    clear e
    by_cases hb1 : sName (ah r 1) = true
    · clear hb
      go_enter Try.func22, Try.ntmps22
      go_wp2_with (first | (go_at_call 18; (with_reducible refine (ahead_1 (by first | assumption | exact hA)).mono ?_); rintro e w1 ⟨rfl, h1⟩) | (go_at_call 33; (with_reducible refine (name_any _ _).mono ?_); rintro e w1 ⟨rfl, rfl⟩) | (go_at_call 31; (with_reducible refine (escapes_1 (by first | assumption | exact hA)).mono ?_); rintro e w1 ⟨rfl, h1⟩) | (go_at_call 30; (with_reducible refine (take_any (by first | assumption | exact hA) hl).mono ?_); rintro e w1 ⟨rfl, h1⟩) | (go_at_call 26; (with_reducible refine (nbg_0 (by first | assumption | exact hA)).mono ?_); rintro e w1 ⟨rfl, h1⟩) | (go_at_call 34; (with_reducible refine (nameW_any (by first | assumption | exact hA)).mono ?_); rintro e w1 ⟨rfl, h1⟩; have hc := h1.res hgo))
      refine bodyPost_ret (v := Tok.val { kind := 4, text := runesBytes (nm (dp 1 r)).1, id := nbg (dp 1 r) 0 }) ?_ rfl ⟨rfl, h1.wrote h _ _ _ _ _ _⟩
      simp [results, Try.results22, go_sem, hc, Tok.val]
    · have hb2 : sName (ah r 1) = false := by simpa using hb1
      have hb3 : esc r 1 = true := by simpa [hb2] using hb
      clear hb hb1
      go_enter Try.func22, Try.ntmps22
      go_wp2_with (first | (go_at_call 18; (with_reducible refine (ahead_1 (by first | assumption | exact hA)).mono ?_); rintro e w1 ⟨rfl, h1⟩) | (go_at_call 33; (with_reducible refine (name_any _ _).mono ?_); rintro e w1 ⟨rfl, rfl⟩) | (go_at_call 31; (with_reducible refine (escapes_1 (by first | assumption | exact hA)).mono ?_); rintro e w1 ⟨rfl, h1⟩) | (go_at_call 30; (with_reducible refine (take_any (by first | assumption | exact hA) hl).mono ?_); rintro e w1 ⟨rfl, h1⟩) | (go_at_call 26; (with_reducible refine (nbg_0 (by first | assumption | exact hA)).mono ?_); rintro e w1 ⟨rfl, h1⟩) | (go_at_call 34; (with_reducible refine (nameW_any (by first | assumption | exact hA)).mono ?_); rintro e w1 ⟨rfl, h1⟩; have hc := h1.res hgo))
      refine bodyPost_ret (v := Tok.val { kind := 4, text := runesBytes (nm (dp 1 r)).1, id := nbg (dp 1 r) 0 }) ?_ rfl ⟨rfl, h1.wrote h _ _ _ _ _ _⟩
      simp [results, Try.results22, go_sem, hc, Tok.val]
  · have e : hashT r = (markT (ah r 0), dp 1 r) := by unfold hashT; rw [if_neg hb]
    have hb2 : sName (ah r 1) = false := by simp at hb; simp [hb]
    have hb3 : esc r 1 = false := by simp at hb; simp [hb]
    clear hb
    rw [e]
    clear e
    go_enter Try.func22, Try.ntmps22
    go_wp2_with (first | (go_at_call 18; (with_reducible refine (ahead_1 (by first | assumption | exact hA)).mono ?_); rintro e w1 ⟨rfl, h1⟩) | (go_at_call 33; (with_reducible refine (name_any _ _).mono ?_); rintro e w1 ⟨rfl, rfl⟩) | (go_at_call 31; (with_reducible refine (escapes_1 (by first | assumption | exact hA)).mono ?_); rintro e w1 ⟨rfl, h1⟩) | (go_at_call 28; (with_reducible refine (mark_any (by first | assumption | exact hA) hl).mono ?_); rintro e w1 ⟨rfl, h1⟩; have hc := h1.res hgo; simp only [Tok.val]))
    refine bodyPost_ret (v := (markT (ah r 0)).val) ?_ rfl ⟨rfl, h1.wrote h _ _ _ _ _ _⟩
    simp [results, Try.results22, go_sem, hc, Tok.val]
end
end Go.Proofs.Ytlajkfnlkkgneaa
namespace Go.Proofs.Ytlajkfnlkkgneaa
open Go.RowKit

/-- What a loop over a text's signs has done: out so far, q still to come; X is what the whole comes to. -/
structure TxtInv (f : List Int → Bool × List Int × List Int) (X : Bool × List Int × List Int) (n : Nat) (out q : List Int) : Prop where
  one : (f q).1 = X.1
  two : out ++ (f q).2.1 = X.2.1
  three : (f q).2.2 = X.2.2
  len : out.length + q.length ≤ n

theorem TxtInv.same {f : List Int → Bool × List Int × List Int} {X : Bool × List Int × List Int} {n : Nat} {out q q' : List Int} (h : TxtInv f X n out q) (he : f q = f q') (hl : q'.length ≤ q.length) : TxtInv f X n out q' :=
  ⟨by rw [← he]; exact h.one, by rw [← he]; exact h.two, by rw [← he]; exact h.three, by have := h.len; omega⟩
theorem TxtInv.push {f : List Int → Bool × List Int × List Int} {X : Bool × List Int × List Int} {n : Nat} {out q q' : List Int} {x : Int} (h : TxtInv f X n out q) (he : f q = ((f q').1, x :: (f q').2.1, (f q').2.2)) (hl : q'.length < q.length) : TxtInv f X n (out ++ [x]) q' := by
  obtain ⟨h1, h2, h3, h4⟩ := h
  rw [he] at h1 h2 h3
  exact ⟨h1, by rw [← h2]; simp, h3, by rw [List.length_append]; simp; omega⟩
theorem TxtInv.good {f : List Int → Bool × List Int × List Int} {X : Bool × List Int × List Int} {n : Nat} {out q q' : List Int} (h : TxtInv f X n out q) (he : f q = (true, [], q')) : X = (true, out, q') := by
  obtain ⟨h1, h2, h3, h4⟩ := h
  rw [he] at h1 h2 h3
  simp at h2
  rw [h2]
  rw [show X = (X.1, X.2.1, X.2.2) from rfl, ← h1, ← h3]
theorem TxtInv.ill {f : List Int → Bool × List Int × List Int} {X : Bool × List Int × List Int} {n : Nat} {out q q' : List Int} (h : TxtInv f X n out q) (he : f q = (false, [], q')) : X = (false, out, q') := by
  obtain ⟨h1, h2, h3, h4⟩ := h
  rw [he] at h1 h2 h3
  simp at h2
  rw [h2]
  rw [show X = (X.1, X.2.1, X.2.2) from rfl, ← h1, ← h3]

section
variable {g : Nat} {v : Value} {xs r : List Int} {w0 w : World}
set_option maxRecDepth 100000 in
set_option maxHeartbeats 1600000 in
theorem quoted_any (h : Now 38 g v xs r w0 w) (hl : 1 ≤ r.length) :
    Calls Try.prog 21 #[.pointer (some ⟨g, 0, none⟩)] w fun e w' => e = .returned (quotedT r).1.val ∧ Now 38 g v xs (quotedT r).2 w0 w' := by
  obtain ⟨i0, hi, hz0, hz1, hz2⟩ := info_parts info_i32
  have hA := (h.alloc zeroT).st.now
  have hgo := h.st.lt
  have hgB : g < (w.alloc zeroT).heap.size := by simp; omega
  have hrl := h.st.rlen'
  unfold quotedT
  have hinv : TxtInv (qt (ah r 0)) (qt (ah r 0) (dp 1 r)) (dp 1 r).length [] (dp 1 r) := ⟨rfl, rfl, rfl, by simp⟩
  have hdl : (dp 1 r).length ≤ 100000000 := by rw [dp_len]; omega
  go_enter Try.func21, Try.ntmps21
  go_wp2_with (first | (go_at_call 30; (with_reducible refine (take_any (by first | assumption | exact hA) hl).mono ?_); rintro e w1 ⟨rfl, h1⟩))
  go_loopw [4, 5] (fun tv _ wr => ∃ out q, TxtInv (qt (ah r 0)) (qt (ah r 0) (dp 1 r)) (dp 1 r).length out q ∧ Txt (w.alloc zeroT).heap.size wr tv out ∧ Now 38 g v xs q (w.alloc zeroT) wr) (fun _ _ wr => left g xs.length wr)
  case atStart => exact ⟨[], dp 1 r, hinv, Txt.nil _ _, h1⟩
  case round =>
    obtain ⟨out, q, hI, ho, hn⟩ := hrel
    clear hA hinv h1
    have hol : out.length ≤ 100000000 := by have := hI.len; omega
    have hws := hn.gw.size
    have hnr := hn.st.now
    have HN := Lib.hid hn
    clear hn
    by_cases c0 : q.isEmpty = true
    · have HX := Lib.hid (hI.good (q' := []) (by unfold qt; rw [dif_pos c0]))
      have hq : q = [] := by simpa using c0
      subst hq
      clear c0 hI
      go_wp2_with (first | (go_at_call 12; (with_reducible refine (ended_any (by repeat (first | assumption | refine Now.alloc ?_ _ | refine Now.set ?_ (by simp; omega) _))).mono ?_); rintro e w1 ⟨rfl, h1⟩; have hcv := (ho.keeps h1 hgB).conv; have hc := (h1.since HN.out).res hgo))
      refine bodyPost_ret (v := Tok.val (tokQ 5 6 (true, out, []))) ?_ rfl ⟨by rw [HX.out], by rw [HX.out]; exact (h1.since HN.out).wrote h _ _ _ _ _ _⟩
      simp [results, Try.results21, go_sem, hc, Tok.val, tokQ]
    · have c0' : q.isEmpty = false := by simpa using c0
      have hlq : 1 ≤ q.length := List.length_pos_iff.2 (by simpa using c0)
      by_cases c1 : ah q 0 = ah r 0
      · have HX := Lib.hid (hI.good (q' := dp 1 q) (by unfold qt; rw [dif_neg c0, if_pos c1]))
        have b1 : (ah q 0 == ah r 0) = true := by simp [c1]
        clear c0 c1 hI
        go_wp2_with (first | (go_at_call 12; (with_reducible refine (ended_any (by repeat (first | assumption | refine Now.alloc ?_ _ | refine Now.set ?_ (by simp; omega) _))).mono ?_); rintro e w1 ⟨rfl, h1⟩; have hs1 := h1.gw.size) | (go_at_call 18; (with_reducible refine (ahead_0 (by repeat (first | assumption | refine Now.alloc ?_ _ | refine Now.set ?_ (by simp; omega) _))).mono ?_); rintro e w1 ⟨rfl, h1⟩) | (go_at_call 30; (with_reducible refine (take_any (by repeat (first | assumption | refine Now.alloc ?_ _ | refine Now.set ?_ (by simp; omega) _)) hlq).mono ?_); rintro e w1 ⟨rfl, h1⟩; have hcv := (ho.keeps h1 hgB).conv; have hc := (h1.since HN.out).res hgo))
        refine bodyPost_ret (v := Tok.val (tokQ 5 6 (true, out, dp 1 q))) ?_ rfl ⟨by rw [HX.out], by rw [HX.out]; exact (h1.since HN.out).wrote h _ _ _ _ _ _⟩
        simp [results, Try.results21, go_sem, hc, Tok.val, tokQ]
      · have b1 : (ah q 0 == ah r 0) = false := by simp [c1]
        by_cases c2 : ah q 0 = 10
        · have HX := Lib.hid (hI.ill (q' := q) (by unfold qt; rw [dif_neg c0, if_neg c1, if_pos c2]))
          have b2 : (ah q 0 == 10) = true := by simp [c2]
          clear c0 c1 hI c2
          go_wp2_with (first | (go_at_call 12; (with_reducible refine (ended_any (by repeat (first | assumption | refine Now.alloc ?_ _ | refine Now.set ?_ (by simp; omega) _))).mono ?_); rintro e w1 ⟨rfl, h1⟩; have hs1 := h1.gw.size) | (go_at_call 18; (with_reducible refine (ahead_0 (by repeat (first | assumption | refine Now.alloc ?_ _ | refine Now.set ?_ (by simp; omega) _))).mono ?_); rintro e w1 ⟨rfl, h1⟩; have hc := (h1.since HN.out).res hgo))
          refine bodyPost_ret (v := Tok.val (tokQ 5 6 (false, out, q))) ?_ rfl ⟨by rw [HX.out], by rw [HX.out]; exact (h1.since HN.out).wrote h _ _ _ _ _ _⟩
          simp [results, Try.results21, go_sem, hc, Tok.val, tokQ]
        · have b2 : (ah q 0 == 10) = false := by simp [c2]
          by_cases c3 : ah q 0 ≠ 92
          · have hP := hI.push (x := ah q 0) (q' := dp 1 q) (by conv => lhs; unfold qt
                                                                rw [dif_neg c0, if_neg c1, if_neg c2, if_pos c3]) (dp_lt c0)
            have b3 : (ah q 0 != 92) = true := by simp [c3]
            have HI := Lib.hid hP
            clear hP c0 c1 c2 c3 hI
            go_wp2_with (first | (go_at_call 12; (with_reducible refine (ended_any (by repeat (first | assumption | refine Now.alloc ?_ _ | refine Now.set ?_ (by simp; omega) _))).mono ?_); rintro e w1 ⟨rfl, h1⟩; have hs1 := h1.gw.size) | (go_at_call 18; (with_reducible refine (ahead_0 (by repeat (first | assumption | refine Now.alloc ?_ _ | refine Now.set ?_ (by simp; omega) _))).mono ?_); rintro e w1 ⟨rfl, h1⟩) | (go_at_call 30; (with_reducible refine (take_any (by repeat (first | assumption | refine Now.alloc ?_ _ | refine Now.set ?_ (by simp; omega) _)) hlq).mono ?_); rintro e w1 ⟨rfl, h1⟩; have hs1 := h1.gw.size) | (at_builtin; refine wpList_append_own _ rfl _ _ 32 rfl (w.alloc zeroT).heap.size 21 i0 (.int .i32 0) 1 4 Try.underlying32 hi hz0 hz1 hz2 rfl (by decide) _ _ _ rfl ((ho.keeps h1 hgB).alloc _) ⟨_, 0, none⟩ 1 1 [.int .i32 _] rfl rfl (cell_one_new _ _ _) (fun u hu => by simp at hu; subst hu; rfl) (by unfold maxLen; omega) (by omega) (by simp at hws ⊢; omega) ?_; intro v' w4 ho4 hg4 _))
            obtain ⟨p1, p2⟩ := Txt.push ho HN.out h1 ho4 hg4
            go_roundw
            case rel => exact ⟨_, _, HI.out, p1, p2⟩
            case measure => rw [p2.left, HN.out.left, dp_len]; omega
          · have b3 : (ah q 0 != 92) = false := by simpa using c3
            by_cases c4 : q.length ≤ 1
            · have hP := hI.same (q' := dp 1 q) (by
                have he : (dp 1 q).isEmpty = true := by
                  have : (dp 1 q).length = 0 := by rw [dp_len]; omega
                  simpa using this
                unfold qt
                rw [dif_neg c0, if_neg c1, if_neg c2, if_neg c3, if_pos c4, dif_pos he]) (by rw [dp_len]; omega)
              have b4 : decide (q.length ≤ 1) = true := by simp [c4]
              have HI := Lib.hid hP
              clear hP c0 c1 c2 c3 hI
              go_wp2_with (first | (go_at_call 12; (with_reducible refine (ended_any (by repeat (first | assumption | refine Now.alloc ?_ _ | refine Now.set ?_ (by simp; omega) _))).mono ?_); rintro e w1 ⟨rfl, h1⟩; have hs1 := h1.gw.size) | (go_at_call 18; (with_reducible refine (ahead_0 (by repeat (first | assumption | refine Now.alloc ?_ _ | refine Now.set ?_ (by simp; omega) _))).mono ?_); rintro e w1 ⟨rfl, h1⟩) | (go_at_call 17; (with_reducible refine (behind_1 (by repeat (first | assumption | refine Now.alloc ?_ _ | refine Now.set ?_ (by simp; omega) _))).mono ?_); rintro e w1 ⟨rfl, h1⟩) | (go_at_call 30; (with_reducible refine (take_any (by repeat (first | assumption | refine Now.alloc ?_ _ | refine Now.set ?_ (by simp; omega) _)) hlq).mono ?_); rintro e w1 ⟨rfl, h1⟩; have hs1 := h1.gw.size))
              go_roundw
              case rel => exact ⟨_, _, HI.out, ho.keeps h1 hgB, h1.since HN.out⟩
              case measure => rw [h1.left, HN.out.left, dp_len]; omega
            · have b4 : decide (q.length ≤ 1) = false := by simp [c4]
              by_cases c5 : esc q 0 = true
              · have hP := hI.push (x := (escT (dp 1 q)).1) (q' := (escT (dp 1 q)).2) (by
                  conv => lhs; unfold qt
                  rw [dif_neg c0, if_neg c1, if_neg c2, if_neg c3, if_neg c4, if_pos c5]) (escT_lt c0)
                have hll := escT_lt c0
                have HI := Lib.hid hP
                have C5 := Lib.hid c5
                clear hP c0 c1 c2 c3 hI
                go_wp2_with (first | (go_at_call 12; (with_reducible refine (ended_any (by repeat (first | assumption | refine Now.alloc ?_ _ | refine Now.set ?_ (by simp; omega) _))).mono ?_); rintro e w1 ⟨rfl, h1⟩; have hs1 := h1.gw.size) | (go_at_call 18; (with_reducible refine (ahead_0 (by repeat (first | assumption | refine Now.alloc ?_ _ | refine Now.set ?_ (by simp; omega) _))).mono ?_); rintro e w1 ⟨rfl, h1⟩) | (go_at_call 17; (with_reducible refine (behind_1 (by repeat (first | assumption | refine Now.alloc ?_ _ | refine Now.set ?_ (by simp; omega) _))).mono ?_); rintro e w1 ⟨rfl, h1⟩) | (go_at_call 31; (with_reducible refine (escapes_0 (by repeat (first | assumption | refine Now.alloc ?_ _ | refine Now.set ?_ (by simp; omega) _))).mono ?_); rintro e w1 ⟨rfl, h1⟩) | (go_at_call 32; (with_reducible refine (escape_any (by repeat (first | assumption | refine Now.alloc ?_ _ | refine Now.set ?_ (by simp; omega) _)) hlq).mono ?_); rintro e w1 ⟨rfl, h1⟩; have hs1 := h1.gw.size) | (at_builtin; refine wpList_append_own _ rfl _ _ 32 rfl (w.alloc zeroT).heap.size 21 i0 (.int .i32 0) 1 4 Try.underlying32 hi hz0 hz1 hz2 rfl (by decide) _ _ _ rfl ((ho.keeps h1 hgB).alloc _) ⟨_, 0, none⟩ 1 1 [.int .i32 _] rfl rfl (cell_one_new _ _ _) (fun u hu => by simp at hu; subst hu; rfl) (by unfold maxLen; omega) (by omega) (by simp at hws ⊢; omega) ?_; intro v' w4 ho4 hg4 _))
                obtain ⟨p1, p2⟩ := Txt.push ho HN.out h1 ho4 hg4
                go_roundw
                case rel => exact ⟨_, _, HI.out, p1, p2⟩
                case measure => rw [p2.left, HN.out.left]; omega
              · have hP := hI.same (q' := dp 2 q) (by
                  conv => lhs; unfold qt
                  rw [dif_neg c0, if_neg c1, if_neg c2, if_neg c3, if_neg c4, if_neg c5]) (by rw [dp_len]; omega)
                have b5 : esc q 0 = false := by simpa using c5
                have hl2 : 2 ≤ q.length := by omega
                have HI := Lib.hid hP
                clear hP c0 c1 c2 c3 hI c5
                go_wp2_with (first | (go_at_call 12; (with_reducible refine (ended_any (by repeat (first | assumption | refine Now.alloc ?_ _ | refine Now.set ?_ (by simp; omega) _))).mono ?_); rintro e w1 ⟨rfl, h1⟩; have hs1 := h1.gw.size) | (go_at_call 18; (with_reducible refine (ahead_0 (by repeat (first | assumption | refine Now.alloc ?_ _ | refine Now.set ?_ (by simp; omega) _))).mono ?_); rintro e w1 ⟨rfl, h1⟩) | (go_at_call 17; (with_reducible refine (behind_1 (by repeat (first | assumption | refine Now.alloc ?_ _ | refine Now.set ?_ (by simp; omega) _))).mono ?_); rintro e w1 ⟨rfl, h1⟩) | (go_at_call 31; (with_reducible refine (escapes_0 (by repeat (first | assumption | refine Now.alloc ?_ _ | refine Now.set ?_ (by simp; omega) _))).mono ?_); rintro e w1 ⟨rfl, h1⟩) | (go_at_call 16; (with_reducible refine (skip_2 (by repeat (first | assumption | refine Now.alloc ?_ _ | refine Now.set ?_ (by simp; omega) _)) ?_).mono ?_); (first | assumption | grind [ah_end]); rintro e w1 ⟨rfl, h1⟩))
                go_roundw
                case rel => exact ⟨_, _, HI.out, ho.keeps h1 hgB, h1.since HN.out⟩
                case measure => rw [h1.left, HN.out.left, dp_len]; omega
end
end Go.Proofs.Ytlajkfnlkkgneaa
namespace Go.Proofs.Ytlajkfnlkkgneaa
open Go.RowKit
section
variable {g : Nat} {v : Value} {xs r : List Int} {w0 w : World}
theorem spoils_any (a : Int) (w : World) :
    Calls Try.prog 51 #[.int .i32 a] w fun e w' => e = .returned (.bool (spoil a)) ∧ w = w' := by
  go_enter Try.func51, Try.ntmps51
  go_wp2
  all_goals go_ret
  all_goals exact ⟨ret_bool (by grind [spoil]), rfl⟩
theorem pre41 {r : List Int} : pre [41] r = true ↔ ah r 0 = 41 := by
  rw [pre_iff _ _ (by decide)]
  constructor
  · intro h; exact h 0 (by decide)
  · intro h j hj
    obtain rfl : j = 0 := by simpa using hj
    exact h
theorem closed_41 (h : Now 38 g v xs r w0 w) (c1 : ah r 0 = 41) :
    Calls Try.prog 49 #[.pointer (some ⟨g, 0, none⟩)] w fun e w' => e = .returned (.bool true) ∧ Now 38 g v xs (dp 1 r) w0 w' := by
  have hp := pre41.2 c1
  have C1 := Lib.hid c1
  clear c1
  go_enter Try.func49, Try.ntmps49
  go_wp2_with (first | (go_at_call 15; (with_reducible refine (took_any (by repeat (first | assumption | refine Now.alloc ?_ _ | refine Now.set ?_ (by simp; omega) _)) ⟨#[41]⟩ [41] (by decide) (by decide) (by decide)).mono ?_); rintro e w1 (⟨rfl, hp1, h1⟩ | ⟨rfl, hp1, h1⟩)) | (go_at_call 12; (with_reducible refine (ended_any (by repeat (first | assumption | refine Now.alloc ?_ _ | refine Now.set ?_ (by simp; omega) _))).mono ?_); rintro e w1 ⟨rfl, h1⟩))
  · go_ret
    exact ⟨rfl, h1⟩
  all_goals simp_all
theorem closed_E (h : Now 38 g v xs r w0 w) (c1 : r.isEmpty = true) :
    Calls Try.prog 49 #[.pointer (some ⟨g, 0, none⟩)] w fun e w' => e = .returned (.bool true) ∧ Now 38 g v xs [] w0 w' := by
  obtain rfl : r = [] := by simpa using c1
  clear c1
  go_enter Try.func49, Try.ntmps49
  go_wp2_with (first | (go_at_call 15; (with_reducible refine (took_any (by repeat (first | assumption | refine Now.alloc ?_ _ | refine Now.set ?_ (by simp; omega) _)) ⟨#[41]⟩ [41] (by decide) (by decide) (by decide)).mono ?_); rintro e w1 (⟨rfl, hp1, h1⟩ | ⟨rfl, hp1, h1⟩)) | (go_at_call 12; (with_reducible refine (ended_any (by repeat (first | assumption | refine Now.alloc ?_ _ | refine Now.set ?_ (by simp; omega) _))).mono ?_); rintro e w1 ⟨rfl, h1⟩))
  · exact absurd hp1 (by decide)
  · go_ret
    exact ⟨rfl, h1⟩
theorem closed_N (h : Now 38 g v xs r w0 w) (c0 : r.isEmpty = false) (c1 : ah r 0 ≠ 41) :
    Calls Try.prog 49 #[.pointer (some ⟨g, 0, none⟩)] w fun e w' => e = .returned (.bool false) ∧ Now 38 g v xs r w0 w' := by
  have hp : ¬ pre [41] r = true := fun hh => c1 (pre41.1 hh)
  clear c1
  go_enter Try.func49, Try.ntmps49
  go_wp2_with (first | (go_at_call 15; (with_reducible refine (took_any (by repeat (first | assumption | refine Now.alloc ?_ _ | refine Now.set ?_ (by simp; omega) _)) ⟨#[41]⟩ [41] (by decide) (by decide) (by decide)).mono ?_); rintro e w1 (⟨rfl, hp1, h1⟩ | ⟨rfl, hp1, h1⟩)) | (go_at_call 12; (with_reducible refine (ended_any (by repeat (first | assumption | refine Now.alloc ?_ _ | refine Now.set ?_ (by simp; omega) _))).mono ?_); rintro e w1 ⟨rfl, h1⟩))
  · exact absurd hp1 hp
  · go_ret
    exact ⟨rfl, h1⟩
set_option maxRecDepth 100000 in
set_option maxHeartbeats 800000 in
theorem bad_any (h : Now 38 g v xs r w0 w) :
    Calls Try.prog 50 #[.pointer (some ⟨g, 0, none⟩)] w fun e w' => e = .returned (Tok.val { kind := 8 }) ∧ Now 38 g v xs (badT r) w0 w' := by
  have hA := (h.alloc zeroT).st.now
  have hgo := h.st.lt
  go_enter Try.func50, Try.ntmps50
  go_wp2
  go_loopw [] (fun wr => ∃ q, badT q = badT r ∧ Now 38 g v xs q (w.alloc zeroT) wr) (fun wr => left g xs.length wr)
  case atStart => exact ⟨r, rfl, hA⟩
  case round =>
    obtain ⟨q, hq, hn⟩ := hrel
    clear hA
    have HQ := Lib.hid hq
    clear hq
    by_cases c1 : q.isEmpty = true
    · have hX : badT r = [] := by rw [← HQ.out]; unfold badT; rw [dif_pos c1]
      have HX := Lib.hid hX
      clear hX
      go_wp2_with (go_at_call 49; (with_reducible refine (closed_E hn c1).mono ?_); rintro e w1 ⟨rfl, h1⟩; have hc := h1.res hgo)
      refine bodyPost_ret (v := Tok.val { kind := 8 }) ?_ rfl ⟨rfl, by rw [HX.out]; exact h1.wrote h _ _ _ _ _ _⟩
      simp [results, Try.results50, go_sem, hc, Tok.val]
    · have c0 : q.isEmpty = false := by simpa using c1
      have hlq : 1 ≤ q.length := List.length_pos_iff.2 (by simpa using c1)
      have hdl := dp_lt c1
      by_cases c2 : ah q 0 = 41
      · have HX := Lib.hid (show badT r = dp 1 q by rw [← HQ.out]; unfold badT; rw [dif_neg c1, if_pos c2])
        have C2 := Lib.hid c2
        clear c2
        go_wp2_with (go_at_call 49; (with_reducible refine (closed_41 hn C2.out).mono ?_); rintro e w1 ⟨rfl, h1⟩; have hc := h1.res hgo)
        refine bodyPost_ret (v := Tok.val { kind := 8 }) ?_ rfl ⟨rfl, by rw [HX.out]; exact h1.wrote h _ _ _ _ _ _⟩
        simp [results, Try.results50, go_sem, hc, Tok.val]
      · have C2 := Lib.hid c2
        by_cases c3 : esc q 0 = true
        · have HX := Lib.hid (show badT (escT (dp 1 q)).2 = badT r by rw [← HQ.out]; conv => rhs; unfold badT
                                                                      rw [dif_neg c1, if_neg c2, if_pos c3])
          have hll := escT_lt c1
          clear c2 c1
          go_wp2_with (first | (go_at_call 49; (with_reducible refine (closed_N hn c0 C2.out).mono ?_); rintro e w1 ⟨rfl, h1⟩) | (first | (go_at_call 31; (with_reducible refine (escapes_0 (by repeat (first | assumption | refine Now.alloc ?_ _ | refine Now.set ?_ (by simp; omega) _))).mono ?_); rintro e w1 ⟨rfl, h1⟩) | (go_at_call 32; (with_reducible refine (escape_any (by repeat (first | assumption | refine Now.alloc ?_ _ | refine Now.set ?_ (by simp; omega) _)) hlq).mono ?_); rintro e w1 ⟨rfl, h1⟩; have hs1 := h1.gw.size)))
          go_roundw
          case rel => exact ⟨_, HX.out, h1⟩
          case measure => rw [h1.left, hn.left]; omega
        · have HX := Lib.hid (show badT (dp 1 q) = badT r by rw [← HQ.out]; conv => rhs; unfold badT
                                                             rw [dif_neg c1, if_neg c2, if_neg c3])
          have b3 : esc q 0 = false := by simpa using c3
          clear c2 c1 c3
          go_wp2_with (first | (go_at_call 49; (with_reducible refine (closed_N hn c0 C2.out).mono ?_); rintro e w1 ⟨rfl, h1⟩) | (first | (go_at_call 31; (with_reducible refine (escapes_0 (by repeat (first | assumption | refine Now.alloc ?_ _ | refine Now.set ?_ (by simp; omega) _))).mono ?_); rintro e w1 ⟨rfl, h1⟩) | (go_at_call 16; (with_reducible refine (skip_1 (by repeat (first | assumption | refine Now.alloc ?_ _ | refine Now.set ?_ (by simp; omega) _)) ?_).mono ?_); (first | assumption | grind [ah_end]); rintro e w1 ⟨rfl, h1⟩)))
          go_roundw
          case rel => exact ⟨_, HX.out, h1⟩
          case measure => rw [h1.left, hn.left]; omega
end
end Go.Proofs.Ytlajkfnlkkgneaa
