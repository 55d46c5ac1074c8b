import Derived.Test.YtclicjiakkcfcaaGreatDoorTrD
import Derived.Test.YtclicjiakkcfcaaGreatDoorTkU
import Derived.Deep.DeepCutAuto
set_option maxRecDepth 100000
set_option maxHeartbeats 6400000
namespace Go.Proofs.YtclicjiakkcfcaaGreatDoor
open Go.RowKit
theorem Now.advN {T : TypeId} {g : Nat} {v : Value} {xs r : List Int} {w0 w : World} (h : Now T g v xs r w0 w) (n : Nat) (hl : n ≤ r.length) {u : Int} (hu : u = ((xs.length - r.length : Nat) : Int) + n) : Now T g v xs (dp n r) w0 (w.setCell ⟨g, 1, none⟩ (.int .i64 u)) := by
 have h1 := h.st.rlen
 have h2 := dp_len n r
 exact h.go ((dp_suf n r).trans h.st.suf) (by congr 1; omega)
section
variable {g : Nat} {v : Value} {xs r : List Int} {w0 w : World}
theorem rident_any (h : Now 101 g v xs r w0 w) :
    Calls Tryz.prog 53 #[.pointer (some ⟨g, 0, none⟩)] w fun e w' => e = .returned (identT r).1.val ∧ Now 101 g v xs (identT r).2 w0 w' := by
  have hA := (h.alloc zeroT).st.now
  have hgo := h.st.lt
  have hxl := h.st.len
  have hrl := h.st.rlen'
  have hnl := nm_length r.length r
  have hsz : (runesBytes (nm r).1).size ≤ 1000000000 := by
   have := runesBytes_size_le (nm r).1
   unfold nm at this ⊢
   omega
  by_cases c : ah (nm r).2 0 ≠ 40
  · have e : identT r = ({ kind := 1, text := runesBytes (nm r).1 }, (nm r).2) := by unfold identT; rw [if_pos c]
    rw [e]
    have b1 : (ah (nm r).2 0 != 40) = true := by simp [c]
    clear e c
    go_enter Tryz.func53, Tryz.ntmps53
    go_wp2_with (first | (go_at_call 49; (with_reducible refine (rname_any hA).mono ?_); rintro e w1 ⟨rfl, h1⟩) | (go_at_call 28; (with_reducible refine (sign_0 h1).mono ?_); rintro e w1 ⟨rfl, h1⟩; have hc := h1.res hgo))
    refine bodyPost_ret (v := Tok.val { kind := 1, text := runesBytes (nm r).1 }) ?_ rfl ⟨rfl, h1.wrote h _ _ _ _ _ _⟩
    simp [results, Tryz.results53, go_sem, hc, Tok.val]
  · have b1 : (ah (nm r).2 0 != 40) = false := by simpa using c
    have hl2 : 1 ≤ (nm r).2.length := len_of_ah (n := 0) (by intro e; apply c; rw [e]; decide)
    have hns := (nm_suf' r).length_le
    by_cases c2 : ((lowS (runesBytes (nm r).1)).toList == [117, 114, 108]) = true
    · have e : identT r = urlT (runesBytes (nm r).1) (nm r).2 := by unfold identT; rw [if_neg c, if_pos c2]
      rw [e]
      clear e c
      have hdl := dp_len 1 (nm r).2
      have HD := Lib.hid hdl
      have htl : (dp 1 (nm r).2).length ≤ 100000000 := by omega
      clear hdl
      go_enter Tryz.func53, Tryz.ntmps53
      go_wp2_with (first | (go_at_call 49; (with_reducible refine (rname_any hA).mono ?_); rintro e w1 ⟨rfl, h1⟩) | (go_at_call 28; (with_reducible refine (sign_0 h1).mono ?_); rintro e w1 ⟨rfl, h1⟩; have k1 := h1.st.cell1; have k2 := h1.st.free1; have h2 := h1.adv1 hl2) | (go_at_call 73; (with_reducible refine (reflower_any _ _ hsz).mono ?_); rintro e w2 ⟨rfl, hb2⟩; have h3 := h2.below hb2))
      go_loopw [4] (fun kv wr => ∃ k : Nat, kv = .int .i64 k ∧ k ≤ (dp 1 (nm r).2).length ∧ wh (dp k (dp 1 (nm r).2)) = wh (dp 1 (nm r).2) ∧ Now 101 g v xs (dp 1 (nm r).2) (w.alloc zeroT) wr) (fun kv _ => 100000001 - (intOf kv).toNat)
      case atStart => exact ⟨0, rfl, Nat.zero_le _, rfl, h3⟩
      case round =>
       obtain ⟨k, rfl, hk, hkw, hn⟩ := hrel
       have HKW := Lib.hid hkw
       clear hkw h3
       have hah : ah (dp k (dp 1 (nm r).2)) 0 = ah (dp 1 (nm r).2) k := ah_drop _ _ _
       have HAH := Lib.hid hah
       clear hah
       by_cases hw : sWhite (ah (dp 1 (nm r).2) k) = true
       · have hlk := len_of_white hw
         have HW := Lib.hid hw
         go_wp2_with (first | (go_at_call 28; (with_reducible refine (sign_any hn k (by omega)).mono ?_); rintro e w1 ⟨rfl, h1⟩) | (first | (go_at_call 44; refine (refwhite_any _ _).mono ?_; rintro e w1 ⟨rfl, rfl⟩)))
         go_roundw
         case rel => exact ⟨k + 1, by go_num, by omega, by rw [← HKW.out, wh_white (r := dp k (dp 1 (nm r).2)) (by rw [HAH.out]; exact HW.out), dp_dp 1 k], h1⟩
         case measure => simp [intOf]; omega
       · have hw2 : sWhite (ah (dp 1 (nm r).2) k) = false := by simpa using hw
         have HE := Lib.hid (show dp k (dp 1 (nm r).2) = wh (dp 1 (nm r).2) by rw [← HKW.out, wh_else (by rw [HAH.out]; exact hw2)])
         have HL := Lib.hid (show (dp 1 (nm r).2).length - (wh (dp 1 (nm r).2)).length = k by
          have := congrArg List.length HE.out
          rw [dp_len] at this
          omega)
         have HA0 := Lib.hid (show ah (wh (dp 1 (nm r).2)) 0 = ah (dp 1 (nm r).2) k by rw [← HE.out, HAH.out])
         clear hw
         by_cases q1 : ah (dp 1 (nm r).2) k = 34
         · have HQ := Lib.hid (show ah (dp 1 (nm r).2) k = 34 ∨ ah (dp 1 (nm r).2) k = 39 from .inl q1)
           have b34 : (ah (dp 1 (nm r).2) k == 34) = true := by simp [q1]
           clear q1
           by_cases k0 : k = 0
           · have HU := Lib.hid (show urlT (runesBytes (nm r).1) (nm r).2 = ({ kind := 2, text := runesBytes (nm r).1 }, dp (k - 1) (dp 1 (nm r).2)) by unfold urlT; rw [if_pos (by rw [HA0.out]; exact HQ.out), HL.out])
             subst k0
             go_wp2_with (first | (go_at_call 28; (with_reducible refine (sign_0 hn).mono ?_); rintro e w1 ⟨rfl, h1⟩) | (go_at_call 28; (with_reducible refine (sign_0 h1).mono ?_); rintro e w1 ⟨rfl, h1⟩; have k1 := h1.st.cell1; have k2 := h1.st.free1; have h2 := h1.advN (0 - 1) (by omega) (u := ((xs.length - (dp 1 (nm r).2).length : Nat) : Int)) (by omega); have hc := h2.res hgo) | (first | (go_at_call 44; refine (refwhite_any _ _).mono ?_; rintro e w1 ⟨rfl, rfl⟩)))
             refine bodyPost_ret (v := Tok.val { kind := 2, text := runesBytes (nm r).1 }) ?_ rfl ⟨by rw [HU.out], by rw [HU.out]; exact h2.wrote h _ _ _ _ _ _⟩
             simp [results, Tryz.results53, go_sem, hc, Tok.val]
           · have k1le : 1 ≤ k := by omega
             have HU := Lib.hid (show urlT (runesBytes (nm r).1) (nm r).2 = ({ kind := 2, text := runesBytes (nm r).1 }, dp (k - 1) (dp 1 (nm r).2)) by unfold urlT; rw [if_pos (by rw [HA0.out]; exact HQ.out), HL.out])
             clear k0
             go_wp2_with (first | (go_at_call 28; (with_reducible refine (sign_any hn k (by omega)).mono ?_); rintro e w1 ⟨rfl, h1⟩) | (go_at_call 28; (with_reducible refine (sign_any h1 k (by omega)).mono ?_); rintro e w1 ⟨rfl, h1⟩; have k1 := h1.st.cell1; have k2 := h1.st.free1; have h2 := h1.advN (k - 1) (by omega) (u := ((xs.length - (dp 1 (nm r).2).length : Nat) : Int) + ((k : Int) - 1)) (by omega); have hc := h2.res hgo) | (first | (go_at_call 44; refine (refwhite_any _ _).mono ?_; rintro e w1 ⟨rfl, rfl⟩)))
             refine bodyPost_ret (v := Tok.val { kind := 2, text := runesBytes (nm r).1 }) ?_ rfl ⟨by rw [HU.out], by rw [HU.out]; exact h2.wrote h _ _ _ _ _ _⟩
             simp [results, Tryz.results53, go_sem, hc, Tok.val]
         have b34 : (ah (dp 1 (nm r).2) k == 34) = false := by simp [q1]
         by_cases q2 : ah (dp 1 (nm r).2) k = 39
         · have HQ := Lib.hid (show ah (dp 1 (nm r).2) k = 34 ∨ ah (dp 1 (nm r).2) k = 39 from .inr q2)
           have b39 : (ah (dp 1 (nm r).2) k == 39) = true := by simp [q2]
           clear q1 q2
           by_cases k0 : k = 0
           · have HU := Lib.hid (show urlT (runesBytes (nm r).1) (nm r).2 = ({ kind := 2, text := runesBytes (nm r).1 }, dp (k - 1) (dp 1 (nm r).2)) by unfold urlT; rw [if_pos (by rw [HA0.out]; exact HQ.out), HL.out])
             subst k0
             go_wp2_with (first | (go_at_call 28; (with_reducible refine (sign_0 hn).mono ?_); rintro e w1 ⟨rfl, h1⟩) | (go_at_call 28; (with_reducible refine (sign_0 h1).mono ?_); rintro e w1 ⟨rfl, h1⟩; have k1 := h1.st.cell1; have k2 := h1.st.free1; have h2 := h1.advN (0 - 1) (by omega) (u := ((xs.length - (dp 1 (nm r).2).length : Nat) : Int)) (by omega); have hc := h2.res hgo) | (first | (go_at_call 44; refine (refwhite_any _ _).mono ?_; rintro e w1 ⟨rfl, rfl⟩)))
             refine bodyPost_ret (v := Tok.val { kind := 2, text := runesBytes (nm r).1 }) ?_ rfl ⟨by rw [HU.out], by rw [HU.out]; exact h2.wrote h _ _ _ _ _ _⟩
             simp [results, Tryz.results53, go_sem, hc, Tok.val]
           · have k1le : 1 ≤ k := by omega
             have HU := Lib.hid (show urlT (runesBytes (nm r).1) (nm r).2 = ({ kind := 2, text := runesBytes (nm r).1 }, dp (k - 1) (dp 1 (nm r).2)) by unfold urlT; rw [if_pos (by rw [HA0.out]; exact HQ.out), HL.out])
             clear k0
             go_wp2_with (first | (go_at_call 28; (with_reducible refine (sign_any hn k (by omega)).mono ?_); rintro e w1 ⟨rfl, h1⟩) | (go_at_call 28; (with_reducible refine (sign_any h1 k (by omega)).mono ?_); rintro e w1 ⟨rfl, h1⟩; have k1 := h1.st.cell1; have k2 := h1.st.free1; have h2 := h1.advN (k - 1) (by omega) (u := ((xs.length - (dp 1 (nm r).2).length : Nat) : Int) + ((k : Int) - 1)) (by omega); have hc := h2.res hgo) | (first | (go_at_call 44; refine (refwhite_any _ _).mono ?_; rintro e w1 ⟨rfl, rfl⟩)))
             refine bodyPost_ret (v := Tok.val { kind := 2, text := runesBytes (nm r).1 }) ?_ rfl ⟨by rw [HU.out], by rw [HU.out]; exact h2.wrote h _ _ _ _ _ _⟩
             simp [results, Tryz.results53, go_sem, hc, Tok.val]
         · have HU := Lib.hid (show urlT (runesBytes (nm r).1) (nm r).2 = (tokQ 7 8 (adr (wh (dp 1 (nm r).2))), (adr (wh (dp 1 (nm r).2))).2.2) by unfold urlT; rw [if_neg (by rw [HA0.out]; intro hh; rcases hh with hh | hh; exact q1 hh; exact q2 hh)])
           have b39 : (ah (dp 1 (nm r).2) k == 39) = false := by simp [q2]
           clear q1 q2
           go_wp2_with (first | (go_at_call 28; (with_reducible refine (sign_any hn k (by omega)).mono ?_); rintro e w1 ⟨rfl, h1⟩) | (go_at_call 28; (with_reducible refine (sign_any h1 k (by omega)).mono ?_); rintro e w1 ⟨rfl, h1⟩) | (first | (go_at_call 44; refine (refwhite_any _ _).mono ?_; rintro e w1 ⟨rfl, rfl⟩)) | (go_at_call 74; (with_reducible refine (rurl_any h1).mono ?_); rintro e w1 ⟨rfl, h1⟩; have hc := h1.res hgo; simp only [Tok.val]))
           refine bodyPost_ret (v := Tok.val (tokQ 7 8 (adr (wh (dp 1 (nm r).2))))) ?_ rfl ⟨by rw [HU.out], by rw [HU.out]; exact h1.wrote h _ _ _ _ _ _⟩
           simp [results, Tryz.results53, go_sem, hc, Tok.val]
    · have e : identT r = ({ kind := 2, text := runesBytes (nm r).1 }, dp 1 (nm r).2) := by unfold identT; rw [if_neg c, if_neg c2]
      rw [e]
      clear e c
      have c3 : ((lowS (runesBytes (nm r).1)).toList == [117, 114, 108]) = false := by simpa using c2
      clear c2
      go_enter Tryz.func53, Tryz.ntmps53
      go_wp2_with (first | (go_at_call 49; (with_reducible refine (rname_any hA).mono ?_); rintro e w1 ⟨rfl, h1⟩) | (go_at_call 28; (with_reducible refine (sign_0 h1).mono ?_); rintro e w1 ⟨rfl, h1⟩; have k1 := h1.st.cell1; have k2 := h1.st.free1; have h2 := h1.adv1 hl2) | (go_at_call 73; (with_reducible refine (reflower_any _ _ hsz).mono ?_); rintro e w2 ⟨rfl, hb2⟩; have h3 := h2.below hb2; have hc := h3.res hgo))
      refine bodyPost_ret (v := Tok.val { kind := 2, text := runesBytes (nm r).1 }) ?_ rfl ⟨rfl, h3.wrote h _ _ _ _ _ _⟩
      simp [results, Tryz.results53, go_sem, hc, Tok.val]
end
section
variable {g : Nat} {v : Value} {xs r : List Int} {w0 w : World}
theorem rdelim_any (h : Now 101 g v xs r w0 w) (hl : 1 ≤ r.length) :
    Calls Tryz.prog 54 #[.pointer (some ⟨g, 0, none⟩)] w fun e w' => e = .returned (Tok.val { kind := 9, text := Utf8.encode (ah r 0) }) ∧ Now 101 g v xs (dp 1 r) w0 w' := by
  have hgo := h.st.lt
  have hws := h.gw.size
  have hxl := h.st.len
  have hrl := h.st.rlen
  have hA := (h.alloc zeroT).st.now
  have hZ := TokB.zero w
  go_enter Tryz.func54, Tryz.ntmps54
  go_wp2_with (go_at_call 28; (with_reducible refine (sign_0 hA).mono ?_); rintro e w1 ⟨rfl, h1⟩)
  refine (refput_any _ _).mono ?_
  rintro e w2 ⟨rfl, hb2⟩
  have h2 := h1.below hb2
  have hs2 := h2.gw.size
  have hg4 : w.heap.size < w2.heap.size := by simp at hs2; omega
  have hB0 : Now 101 g v xs r w0 (w2.alloc (.cells #[.int .i64 9, .string (Utf8.encode (ah r 0)), .int .i64 0, .bool false, .bool false, .bool false] 94)) := (h2.since (h.alloc zeroT)).alloc _
  have hZ1 := (hZ.keep h2 hgo).alloc (.cells #[.int .i64 9, .string (Utf8.encode (ah r 0)), .int .i64 0, .bool false, .bool false, .bool false] 94)
  have hT : TokB w2.heap.size { kind := 9, text := Utf8.encode (ah r 0) } (w2.alloc (.cells #[.int .i64 9, .string (Utf8.encode (ah r 0)), .int .i64 0, .bool false, .bool false, .bool false] 94)) := heap_alloc_self _ _
  have k1 := hB0.st.cell1
  have k2 := hB0.st.free1
  have hadv := hB0.adv1 hl
  have hc4 := (hT.other (p := ⟨g, 1, none⟩) (by show w2.heap.size ≠ g; omega) (.int .i64 (((xs.length - r.length : Nat) : Int) + 1))).cells
  have hcz := (hZ1.other (p := ⟨g, 1, none⟩) (by show w.heap.size ≠ g; omega) (.int .i64 (((xs.length - r.length : Nat) : Int) + 1))).cells
  go_wp2
  refine bodyPost_ret (v := Tok.val { kind := 9, text := Utf8.encode (ah r 0) }) ?_ rfl ⟨rfl, ?_⟩
  · simp [results, Tryz.results54, go_sem, hcz, Tok.val]
  · exact hadv.put6 hws _ _ _ _ _ _
end
def dig32 (l : List Int) : Int := l.foldl (fun n x => min (n * 10 + (x - 48)) 4294967296) 0
theorem dig32_snoc (l : List Int) (x : Int) : dig32 (l ++ [x]) = min (dig32 l * 10 + (x - 48)) 4294967296 := by
 unfold dig32; rw [List.foldl_append]; rfl
theorem dig32_both : ∀ (l : List Int), l.all sDigit = true → 0 ≤ dig32 l ∧ dig32 l ≤ 4294967296 ∧ digV l = min (dig32 l) 2147483648 := by
 suffices H : ∀ (l : List Int) (n m : Int), l.all sDigit = true → 0 ≤ n ∧ n ≤ 4294967296 ∧ m = min n 2147483648 → 0 ≤ l.foldl (fun n x => min (n * 10 + (x - 48)) 4294967296) n ∧ l.foldl (fun n x => min (n * 10 + (x - 48)) 4294967296) n ≤ 4294967296 ∧ l.foldl (fun n x => min (n * 10 + (x - 48)) 2147483648) m = min (l.foldl (fun n x => min (n * 10 + (x - 48)) 4294967296) n) 2147483648 by
  intro l h
  exact H l 0 0 h (by omega)
 intro l
 induction l with
 | nil => intro n m _ h; exact h
 | cons a l ih =>
  intro n m hl hn
  simp only [List.all_cons, Bool.and_eq_true] at hl
  rw [List.foldl_cons, List.foldl_cons]
  refine ih _ _ hl.2 ?_
  have := hl.1
  simp only [sDigit, decide_eq_true_eq] at this
  omega
def segL (l : List Int) (k0 k : Nat) : List Int := (l.take k).drop k0
def frm (l : List Int) (k0 : Nat) : List Int := l.drop k0
theorem seg_snoc (l : List Int) (k0 k : Nat) (h0 : k0 ≤ k) (h : k < l.length) : segL l k0 (k + 1) = segL l k0 k ++ [nth l k] := by
 unfold segL
 rw [List.take_succ_eq_append_getElem h, List.drop_append_of_le_length (by rw [List.length_take]; omega)]
 congr 2
 simp [nth, List.getD_eq_getElem?_getD, List.getElem?_eq_getElem h]
theorem refint_45 (s : ByteArray) (w : World) (hs : s.size ≤ 1000000000) (hpos : 0 < s.size) (h45 : ((s.data[0]'hpos).toNat : Int) = 45) (h1 : 1 < s.size) :
    Calls Tryz.prog 72 #[.string s] w fun e w' => e = .returned (.int .i64 (intV (nums s))) ∧ w = w' := by
  have hposd : 0 < s.data.size := hpos
  have hnl := nums_length s
  have hcons : ∃ t, nums s = ((s.data[0]).toNat : Int) :: t ∧ t.length + 1 = s.size := by
   have h1 := nums_at s 0 hposd
   cases hh : nums s with
   | nil => rw [hh] at hnl; simp at hnl; omega
   | cons a t =>
    rw [hh] at h1 hnl
    simp only [nth, List.getD_cons_zero] at h1
    exact ⟨t, by rw [h1], by simpa using hnl⟩
  obtain ⟨t, hcons, htl⟩ := hcons
  have HC := Lib.hid hcons
  have HNL := Lib.hid hnl
  clear hcons hnl
  have IV := Lib.hid (show intV (nums s) = if digOk (frm (nums s) 1) then - digR (frm (nums s) 1) else 0 by rw [HC.out, h45]; unfold intV frm; simp; rfl)
  have b1 : ((s[0].toNat : Int) == 43) = false := by show ((s.data[0].toNat : Int) == 43) = false; simp [h45]
  have b2 : ((s[0].toNat : Int) == 45) = true := by show ((s.data[0].toNat : Int) == 45) = true; simp [h45]
  have hne : ((1 : Int) == (s.size : Int)) = false := by simp; omega
  clear h45 HC
  go_enter Tryz.func72, Tryz.ntmps72
  go_wp2
  go_loop [4, 5] (fun nv iv => ∃ k : Nat, 1 ≤ k ∧ k ≤ s.size ∧ iv = .int .i64 k ∧ nv = .int .i64 (dig32 (segL (nums s) 1 k)) ∧ (segL (nums s) 1 k).all sDigit = true) (fun _ iv => s.size - (intOf iv).toNat)
  case atStart => exact ⟨1, by omega, by omega, rfl, by simp [dig32, segL], by simp [segL]⟩
  case round =>
   obtain ⟨k, hk0, hk, rfl, rfl, hall⟩ := hrel
   have HALL := Lib.hid hall
   obtain ⟨hb1, hb2, hb3⟩ := dig32_both _ hall
   obtain ⟨D, hDD⟩ : ∃ D, dig32 (segL (nums s) 1 k) = D := ⟨_, rfl⟩
   rw [hDD] at hb1 hb2 hb3 ⊢
   have HDD := Lib.hid hDD
   have HB3 := Lib.hid hb3
   clear hall hb3 hDD
   by_cases hlt : k < s.size
   · have hx := nums_at s k hlt
     have hsn := seg_snoc (nums s) 1 k hk0 (by rw [HNL.out]; exact hlt)
     rw [hx] at hsn
     have hmem : ((s.data[k]).toNat : Int) ∈ frm (nums s) 1 := by
      unfold frm
      have hkl : k < (nums s).length := by rw [HNL.out]; exact hlt
      have : (nums s)[k] = ((s.data[k]).toNat : Int) := by
       rw [← hx]; simp [nth, List.getD_eq_getElem?_getD, List.getElem?_eq_getElem hkl]
      rw [← this, List.mem_iff_getElem]
      exact ⟨k - 1, by rw [List.length_drop]; omega, by rw [List.getElem_drop]; congr 1; omega⟩
     have HX := Lib.hid hx
     have HSN := Lib.hid hsn
     clear hx hsn
     have hxr : 0 ≤ ((s[k]).toNat : Int) ∧ ((s[k]).toNat : Int) ≤ 255 := by have := (s[k]).toNat_lt; omega
     obtain ⟨hx1, hx2⟩ := hxr
     have hkk : (s.data[k]).toNat = (s[k]).toNat := rfl
     rw [hkk] at HSN hmem
     by_cases hd : sDigit ((s[k]).toNat : Int) = true
     · have hlo : 48 ≤ ((s[k]).toNat : Int) ∧ ((s[k]).toNat : Int) ≤ 57 := by simpa [sDigit] using hd
       obtain ⟨hlo1, hlo2⟩ := hlo
       have HD := Lib.hid hd
       clear hd
       generalize hX : ((s[k]).toNat : Int) = x at *
       go_wp2
       go_round
       case rel => exact ⟨k + 1, by omega, by omega, by go_num, by rw [HSN.out, dig32_snoc, HDD.out]; congr 1; omega, by rw [HSN.out, List.all_append, HALL.out]; simp [HD.out]⟩
       case measure => simp [intOf]; omega
     · have hz : intV (nums s) = 0 := by
        have hna : (frm (nums s) 1).all sDigit = false := by rw [List.all_eq_false]; exact ⟨_, hmem, hd⟩
        have hok : digOk (frm (nums s) 1) = false := by unfold digOk; rw [hna]; rfl
        rw [IV.out, hok]
        first | rfl | simp
       have HZ := Lib.hid hz
       have hn2 : ((s[k]).toNat : Int) < 48 ∨ 57 < ((s[k]).toNat : Int) := by simp [sDigit] at hd; omega
       clear hz hd
       rcases hn2 with hn2 | hn2
       · go_wp2
         go_ret
         exact ⟨ret_int HZ.out.symm, rfl⟩
       · have hn3 : ¬ ((s[k]).toNat : Int) < 48 := by omega
         go_wp2
         go_ret
         exact ⟨ret_int HZ.out.symm, rfl⟩
   · obtain rfl : k = s.size := by omega
     have htk : segL (nums s) 1 s.size = frm (nums s) 1 := by unfold segL frm; rw [List.take_of_length_le (by rw [HNL.out]; exact Nat.le_refl _)]
     have hall2 := HALL.out
     rw [htk] at hall2
     have hb4 := HB3.out
     rw [htk] at hb4
     have hok : digOk (frm (nums s) 1) = true := by
      unfold digOk
      rw [hall2]
      have : frm (nums s) 1 ≠ [] := by
       unfold frm
       intro e
       have := congrArg List.length e
       rw [List.length_drop, HNL.out, List.length_nil] at this
       omega
      simpa using this
     have hr : digR (frm (nums s) 1) = min D 2147483648 := by unfold digR; rw [if_pos hall2, hb4]
     have hv := IV.out
     rw [hok, if_pos rfl, hr] at hv
     have HV := Lib.hid hv
     clear hv hr hok hb4 hall2 htk
     go_wp2
     all_goals go_ret
     all_goals exact ⟨ret_int (by rw [HV.out]; omega), rfl⟩
theorem refint_43 (s : ByteArray) (w : World) (hs : s.size ≤ 1000000000) (hpos : 0 < s.size) (h43 : ((s.data[0]'hpos).toNat : Int) = 43) (h1 : 1 < s.size) :
    Calls Tryz.prog 72 #[.string s] w fun e w' => e = .returned (.int .i64 (intV (nums s))) ∧ w = w' := by
  have hposd : 0 < s.data.size := hpos
  have hnl := nums_length s
  have hcons : ∃ t, nums s = ((s.data[0]).toNat : Int) :: t ∧ t.length + 1 = s.size := by
   have h1 := nums_at s 0 hposd
   cases hh : nums s with
   | nil => rw [hh] at hnl; simp at hnl; omega
   | cons a t =>
    rw [hh] at h1 hnl
    simp only [nth, List.getD_cons_zero] at h1
    exact ⟨t, by rw [h1], by simpa using hnl⟩
  obtain ⟨t, hcons, htl⟩ := hcons
  have HC := Lib.hid hcons
  have HNL := Lib.hid hnl
  clear hcons hnl
  have IV := Lib.hid (show intV (nums s) = if digOk (frm (nums s) 1) then min (digR (frm (nums s) 1)) 2147483647 else 0 by rw [HC.out, h43]; unfold intV frm; simp; rfl)
  have b1 : ((s[0].toNat : Int) == 43) = true := by show ((s.data[0].toNat : Int) == 43) = true; simp [h43]
  have b2 : ((s[0].toNat : Int) == 45) = false := by show ((s.data[0].toNat : Int) == 45) = false; simp [h43]
  have hne : ((1 : Int) == (s.size : Int)) = false := by simp; omega
  clear h43 HC
  go_enter Tryz.func72, Tryz.ntmps72
  go_wp2
  go_loop [4, 5] (fun nv iv => ∃ k : Nat, 1 ≤ k ∧ k ≤ s.size ∧ iv = .int .i64 k ∧ nv = .int .i64 (dig32 (segL (nums s) 1 k)) ∧ (segL (nums s) 1 k).all sDigit = true) (fun _ iv => s.size - (intOf iv).toNat)
  case atStart => exact ⟨1, by omega, by omega, rfl, by simp [dig32, segL], by simp [segL]⟩
  case round =>
   obtain ⟨k, hk0, hk, rfl, rfl, hall⟩ := hrel
   have HALL := Lib.hid hall
   obtain ⟨hb1, hb2, hb3⟩ := dig32_both _ hall
   obtain ⟨D, hDD⟩ : ∃ D, dig32 (segL (nums s) 1 k) = D := ⟨_, rfl⟩
   rw [hDD] at hb1 hb2 hb3 ⊢
   have HDD := Lib.hid hDD
   have HB3 := Lib.hid hb3
   clear hall hb3 hDD
   by_cases hlt : k < s.size
   · have hx := nums_at s k hlt
     have hsn := seg_snoc (nums s) 1 k hk0 (by rw [HNL.out]; exact hlt)
     rw [hx] at hsn
     have hmem : ((s.data[k]).toNat : Int) ∈ frm (nums s) 1 := by
      unfold frm
      have hkl : k < (nums s).length := by rw [HNL.out]; exact hlt
      have : (nums s)[k] = ((s.data[k]).toNat : Int) := by
       rw [← hx]; simp [nth, List.getD_eq_getElem?_getD, List.getElem?_eq_getElem hkl]
      rw [← this, List.mem_iff_getElem]
      exact ⟨k - 1, by rw [List.length_drop]; omega, by rw [List.getElem_drop]; congr 1; omega⟩
     have HX := Lib.hid hx
     have HSN := Lib.hid hsn
     clear hx hsn
     have hxr : 0 ≤ ((s[k]).toNat : Int) ∧ ((s[k]).toNat : Int) ≤ 255 := by have := (s[k]).toNat_lt; omega
     obtain ⟨hx1, hx2⟩ := hxr
     have hkk : (s.data[k]).toNat = (s[k]).toNat := rfl
     rw [hkk] at HSN hmem
     by_cases hd : sDigit ((s[k]).toNat : Int) = true
     · have hlo : 48 ≤ ((s[k]).toNat : Int) ∧ ((s[k]).toNat : Int) ≤ 57 := by simpa [sDigit] using hd
       obtain ⟨hlo1, hlo2⟩ := hlo
       have HD := Lib.hid hd
       clear hd
       generalize hX : ((s[k]).toNat : Int) = x at *
       go_wp2
       go_round
       case rel => exact ⟨k + 1, by omega, by omega, by go_num, by rw [HSN.out, dig32_snoc, HDD.out]; congr 1; omega, by rw [HSN.out, List.all_append, HALL.out]; simp [HD.out]⟩
       case measure => simp [intOf]; omega
     · have hz : intV (nums s) = 0 := by
        have hna : (frm (nums s) 1).all sDigit = false := by rw [List.all_eq_false]; exact ⟨_, hmem, hd⟩
        have hok : digOk (frm (nums s) 1) = false := by unfold digOk; rw [hna]; rfl
        rw [IV.out, hok]
        first | rfl | simp
       have HZ := Lib.hid hz
       have hn2 : ((s[k]).toNat : Int) < 48 ∨ 57 < ((s[k]).toNat : Int) := by simp [sDigit] at hd; omega
       clear hz hd
       rcases hn2 with hn2 | hn2
       · go_wp2
         go_ret
         exact ⟨ret_int HZ.out.symm, rfl⟩
       · have hn3 : ¬ ((s[k]).toNat : Int) < 48 := by omega
         go_wp2
         go_ret
         exact ⟨ret_int HZ.out.symm, rfl⟩
   · obtain rfl : k = s.size := by omega
     have htk : segL (nums s) 1 s.size = frm (nums s) 1 := by unfold segL frm; rw [List.take_of_length_le (by rw [HNL.out]; exact Nat.le_refl _)]
     have hall2 := HALL.out
     rw [htk] at hall2
     have hb4 := HB3.out
     rw [htk] at hb4
     have hok : digOk (frm (nums s) 1) = true := by
      unfold digOk
      rw [hall2]
      have : frm (nums s) 1 ≠ [] := by
       unfold frm
       intro e
       have := congrArg List.length e
       rw [List.length_drop, HNL.out, List.length_nil] at this
       omega
      simpa using this
     have hr : digR (frm (nums s) 1) = min D 2147483648 := by unfold digR; rw [if_pos hall2, hb4]
     have hv := IV.out
     rw [hok, if_pos rfl, hr] at hv
     have HV := Lib.hid hv
     clear hv hr hok hb4 hall2 htk
     go_wp2
     all_goals go_ret
     all_goals exact ⟨ret_int (by rw [HV.out]; omega), rfl⟩
theorem refint_no (s : ByteArray) (w : World) (hs : s.size ≤ 1000000000) (hpos : 0 < s.size) (h45 : ¬ ((s.data[0]'hpos).toNat : Int) = 45) (h43 : ¬ ((s.data[0]'hpos).toNat : Int) = 43) :
    Calls Tryz.prog 72 #[.string s] w fun e w' => e = .returned (.int .i64 (intV (nums s))) ∧ w = w' := by
  have hposd : 0 < s.data.size := hpos
  have hnl := nums_length s
  have hcons : ∃ t, nums s = ((s.data[0]).toNat : Int) :: t ∧ t.length + 1 = s.size := by
   have h1 := nums_at s 0 hposd
   cases hh : nums s with
   | nil => rw [hh] at hnl; simp at hnl; omega
   | cons a t =>
    rw [hh] at h1 hnl
    simp only [nth, List.getD_cons_zero] at h1
    exact ⟨t, by rw [h1], by simpa using hnl⟩
  obtain ⟨t, hcons, htl⟩ := hcons
  have HC := Lib.hid hcons
  have HNL := Lib.hid hnl
  clear hcons hnl
  have IV := Lib.hid (show intV (nums s) = if digOk (frm (nums s) 0) then min (digR (frm (nums s) 0)) 2147483647 else 0 by
   unfold intV frm
   rw [if_neg (by rw [HC.out]; simpa using h45), if_neg (by rw [HC.out]; simpa using h43), List.drop_zero])
  have b1 : ((s[0].toNat : Int) == 43) = false := by show ((s.data[0].toNat : Int) == 43) = false; simp [h43]
  have b2 : ((s[0].toNat : Int) == 45) = false := by show ((s.data[0].toNat : Int) == 45) = false; simp [h45]
  have hne : ((0 : Int) == (s.size : Int)) = false := by simp; omega
  clear h43 h45 HC
  go_enter Tryz.func72, Tryz.ntmps72
  go_wp2
  go_loop [4, 5] (fun nv iv => ∃ k : Nat, 0 ≤ k ∧ k ≤ s.size ∧ iv = .int .i64 k ∧ nv = .int .i64 (dig32 (segL (nums s) 0 k)) ∧ (segL (nums s) 0 k).all sDigit = true) (fun _ iv => s.size - (intOf iv).toNat)
  case atStart => exact ⟨0, by omega, by omega, rfl, by simp [dig32, segL], by simp [segL]⟩
  case round =>
   obtain ⟨k, hk0, hk, rfl, rfl, hall⟩ := hrel
   have HALL := Lib.hid hall
   obtain ⟨hb1, hb2, hb3⟩ := dig32_both _ hall
   obtain ⟨D, hDD⟩ : ∃ D, dig32 (segL (nums s) 0 k) = D := ⟨_, rfl⟩
   rw [hDD] at hb1 hb2 hb3 ⊢
   have HDD := Lib.hid hDD
   have HB3 := Lib.hid hb3
   clear hall hb3 hDD
   by_cases hlt : k < s.size
   · have hx := nums_at s k hlt
     have hsn := seg_snoc (nums s) 0 k hk0 (by rw [HNL.out]; exact hlt)
     rw [hx] at hsn
     have hmem : ((s.data[k]).toNat : Int) ∈ frm (nums s) 0 := by
      unfold frm
      have hkl : k < (nums s).length := by rw [HNL.out]; exact hlt
      have : (nums s)[k] = ((s.data[k]).toNat : Int) := by
       rw [← hx]; simp [nth, List.getD_eq_getElem?_getD, List.getElem?_eq_getElem hkl]
      rw [← this, List.mem_iff_getElem]
      exact ⟨k - 0, by rw [List.length_drop]; omega, by rw [List.getElem_drop]; congr 1; omega⟩
     have HX := Lib.hid hx
     have HSN := Lib.hid hsn
     clear hx hsn
     have hxr : 0 ≤ ((s[k]).toNat : Int) ∧ ((s[k]).toNat : Int) ≤ 255 := by have := (s[k]).toNat_lt; omega
     obtain ⟨hx1, hx2⟩ := hxr
     have hkk : (s.data[k]).toNat = (s[k]).toNat := rfl
     rw [hkk] at HSN hmem
     by_cases hd : sDigit ((s[k]).toNat : Int) = true
     · have hlo : 48 ≤ ((s[k]).toNat : Int) ∧ ((s[k]).toNat : Int) ≤ 57 := by simpa [sDigit] using hd
       obtain ⟨hlo1, hlo2⟩ := hlo
       have HD := Lib.hid hd
       clear hd
       generalize hX : ((s[k]).toNat : Int) = x at *
       go_wp2
       go_round
       case rel => exact ⟨k + 1, by omega, by omega, by go_num, by rw [HSN.out, dig32_snoc, HDD.out]; congr 1; omega, by rw [HSN.out, List.all_append, HALL.out]; simp [HD.out]⟩
       case measure => simp [intOf]; omega
     · have hz : intV (nums s) = 0 := by
        have hna : (frm (nums s) 0).all sDigit = false := by rw [List.all_eq_false]; exact ⟨_, hmem, hd⟩
        have hok : digOk (frm (nums s) 0) = false := by unfold digOk; rw [hna]; rfl
        rw [IV.out, hok]
        first | rfl | simp
       have HZ := Lib.hid hz
       have hn2 : ((s[k]).toNat : Int) < 48 ∨ 57 < ((s[k]).toNat : Int) := by simp [sDigit] at hd; omega
       clear hz hd
       rcases hn2 with hn2 | hn2
       · go_wp2
         go_ret
         exact ⟨ret_int HZ.out.symm, rfl⟩
       · have hn3 : ¬ ((s[k]).toNat : Int) < 48 := by omega
         go_wp2
         go_ret
         exact ⟨ret_int HZ.out.symm, rfl⟩
   · obtain rfl : k = s.size := by omega
     have htk : segL (nums s) 0 s.size = frm (nums s) 0 := by unfold segL frm; rw [List.take_of_length_le (by rw [HNL.out]; exact Nat.le_refl _)]
     have hall2 := HALL.out
     rw [htk] at hall2
     have hb4 := HB3.out
     rw [htk] at hb4
     have hok : digOk (frm (nums s) 0) = true := by
      unfold digOk
      rw [hall2]
      have : frm (nums s) 0 ≠ [] := by
       unfold frm
       intro e
       have := congrArg List.length e
       rw [List.length_drop, HNL.out, List.length_nil] at this
       omega
      simpa using this
     have hr : digR (frm (nums s) 0) = min D 2147483648 := by unfold digR; rw [if_pos hall2, hb4]
     have hv := IV.out
     rw [hok, if_pos rfl, hr] at hv
     have HV := Lib.hid hv
     clear hv hr hok hb4 hall2 htk
     go_wp2
     all_goals go_ret
     all_goals exact ⟨ret_int (by rw [HV.out]; omega), rfl⟩
theorem refint_short (s : ByteArray) (w : World) (hz : s.size = 0 ∨ s.size = 1 ∧ (nth (nums s) 0 = 43 ∨ nth (nums s) 0 = 45)) :
    Calls Tryz.prog 72 #[.string s] w fun e w' => e = .returned (.int .i64 (intV (nums s))) ∧ w = w' := by
  have hnl := nums_length s
  rcases hz with hz | ⟨hz, hs⟩
  · have hn : nums s = [] := List.eq_nil_of_length_eq_zero (by omega)
    have e1 : intV (nums s) = 0 := by rw [hn]; decide
    rw [e1]
    clear hn e1 hnl
    have hq : ((0 : Int) == (s.size : Int)) = true := by simp [hz]
    have hq2 : ¬ (0 : Int) < (s.size : Int) := by omega
    clear hz
    go_enter Tryz.func72, Tryz.ntmps72
    go_wp2
    go_ret
    exact ⟨rfl, rfl⟩
  · have hp : 0 < s.size := by omega
    have h1 := nums_at s 0 hp
    rw [h1] at hs
    have hs2 : (s[0].toNat : Int) = 43 ∨ (s[0].toNat : Int) = 45 := hs
    have e1 : intV (nums s) = 0 := by
     cases hh : nums s with
     | nil => rfl
     | cons a t =>
      rw [hh] at h1 hnl
      have ht : t = [] := List.eq_nil_of_length_eq_zero (by simp at hnl; omega)
      have ha : a = ((s.data[0]).toNat : Int) := by simpa [nth] using h1
      have hs3 : a = 43 ∨ a = 45 := by rw [ha]; exact hs
      subst ht
      rcases hs3 with rfl | rfl <;> decide
    rw [e1]
    clear h1 hs hnl e1
    have hq : ((1 : Int) == (s.size : Int)) = true := by simp [hz]
    have hq2 : (0 : Int) < (s.size : Int) := by omega
    clear hz
    rcases hs2 with hs2 | hs2
    · have b1 : ((s[0].toNat : Int) == 43) = true := by simp [hs2]
      clear hs2
      go_enter Tryz.func72, Tryz.ntmps72
      go_wp2
      go_ret
      exact ⟨rfl, rfl⟩
    · have b1 : ((s[0].toNat : Int) == 43) = false := by simp [hs2]
      have b2 : ((s[0].toNat : Int) == 45) = true := by simp [hs2]
      clear hs2
      go_enter Tryz.func72, Tryz.ntmps72
      go_wp2
      go_ret
      exact ⟨rfl, rfl⟩
theorem refint_any (s : ByteArray) (w : World) (hs : s.size ≤ 1000000000) :
    Calls Tryz.prog 72 #[.string s] w fun e w' => e = .returned (.int .i64 (intV (nums s))) ∧ w = w' := by
  by_cases h0 : s.size = 0
  · exact refint_short s w (.inl h0)
  · have hp : 0 < s.size := by omega
    have h1 := nums_at s 0 hp
    by_cases h43 : ((s.data[0]'hp).toNat : Int) = 43
    · by_cases h2 : 1 < s.size
      · exact refint_43 s w hs hp h43 h2
      · exact refint_short s w (.inr ⟨by omega, .inl (by rw [h1]; exact h43)⟩)
    · by_cases h45 : ((s.data[0]'hp).toNat : Int) = 45
      · by_cases h2 : 1 < s.size
        · exact refint_45 s w hs hp h45 h2
        · exact refint_short s w (.inr ⟨by omega, .inr (by rw [h1]; exact h45)⟩)
      · exact refint_no s w hs hp h45 h43
def sgl (r : List Int) : List Int := if sgn r 0 then [ah r 0] else []
theorem dgs_cnt (r : List Int) : dgs r ++ cnt r = r := List.takeWhile_append_dropWhile
theorem sgn_len {r : List Int} (h : sgn r 0 = true) : 1 ≤ r.length := len_of_ah (n := 0) (by intro e; simp [sgn, e] at h)
theorem sgl_num1 (r : List Int) : sgl r ++ num1 r = r := by
 unfold sgl num1
 by_cases h : sgn r 0 = true
 · rw [if_pos h, if_pos h]
   cases r with
   | nil => have := sgn_len h; simp at this
   | cons a t => rfl
 · rw [if_neg h, if_neg h]; rfl
theorem num_take (r : List Int) : r.take (r.length - (num2 r).length) = sgl r ++ dgs (num1 r) := by
 have h : (sgl r ++ dgs (num1 r)) ++ num2 r = r := by
  rw [List.append_assoc]
  unfold num2
  rw [dgs_cnt, sgl_num1]
 generalize sgl r ++ dgs (num1 r) = p at *
 generalize num2 r = q at *
 subst h
 simp
theorem runesBytes_append (a b : List Int) : runesBytes (a ++ b) = runesBytes a ++ runesBytes b := by
 apply ByteArray.ext
 apply Array.ext'
 rw [runesBytes_list, ByteArray.data_append, Array.toList_append, runesBytes_list, runesBytes_list, List.flatMap_append]
theorem runesBytes_one (a : Int) : runesBytes [a] = Utf8.encode a := by
 have h := runesBytes_snoc [] a
 rw [List.nil_append] at h
 rw [h]
 apply ByteArray.ext
 apply Array.ext'
 rw [ByteArray.data_append, Array.toList_append, runesBytes_list]
 rfl
theorem pre_one (a : Int) (q : List Int) (ha : a ≠ -1) : pre [a] q = (ah q 0 == a) := by
 have h := pre_iff [a] q (by intro x hx; simp at hx; rw [hx]; exact ha)
 rw [Bool.eq_iff_iff, h]
 constructor
 · intro hh; have := hh 0 (by simp); simpa [nth] using this
 · intro hh j hj
   have : j = 0 := by simp at hj; omega
   subst this
   simpa [nth] using hh
theorem ret_b {a b : Bool} (h : a = b) : Value.bool a = Value.bool b := by rw [h]
section
variable {g : Nat} {v : Value} {xs r : List Int} {w0 w : World}
theorem rnumber_any (h : Now 101 g v xs r w0 w) :
    Calls Tryz.prog 52 #[.pointer (some ⟨g, 0, none⟩)] w fun e w' => e = .returned (numberT r).1.val ∧ Now 101 g v xs (numberT r).2 w0 w' := by
  have hgo := h.st.lt
  have hws := h.gw.size
  have hxl := h.st.len
  have hrl := h.st.rlen
  have hA := (h.alloc zeroT).st.now
  have hZ := TokB.zero w
  go_enter Tryz.func52, Tryz.ntmps52
  go_upto_region 2 with fail
  go_cut [4] (fun s4 wx => s4 = .bool (sgn r 0) ∧ Now 101 g v xs r (w.alloc zeroT) wx)
  case first =>
   go_wp2_with (first | (go_at_call 28; (with_reducible refine (sign_0 (by assumption)).mono ?_); rintro e w1 ⟨rfl, h1⟩) | (go_at_call 28; (with_reducible refine (sign_1 (by assumption)).mono ?_); rintro e w1 ⟨rfl, h1⟩) | (go_at_call 28; (with_reducible refine (sign_2 (by assumption)).mono ?_); rintro e w1 ⟨rfl, h1⟩))
   all_goals (go_meet; case rel => exact ⟨ret_b (by grind [sgn]), by assumption⟩)
  case rest =>
   obtain ⟨rfl, hn⟩ := hcut
   clear hA
   go_upto_if 16 with fail
   go_cut [3, 4] (fun s3 s4 wx => s3 = .string (runesBytes (sgl r)) ∧ s4 = .bool (sgn r 0) ∧ Now 101 g v xs (num1 r) (w.alloc zeroT) wx)
   case first =>
    by_cases c : sgn r 0 = true
    · have hl := sgn_len c
      have C := Lib.hid c
      rw [c]
      have E1 := Lib.hid (show runesBytes (sgl r) = Utf8.encode (ah r 0) by unfold sgl; rw [if_pos c, runesBytes_one])
      have E2 := Lib.hid (show num1 r = dp 1 r by unfold num1; rw [if_pos c])
      go_wp2_with (first | (go_at_call 28; (with_reducible refine (sign_0 hn).mono ?_); rintro e w1 ⟨rfl, h1⟩) | (go_at_call 43; (with_reducible refine (refput_any _ _).mono ?_); rintro e w2 ⟨rfl, hb2⟩; have h2 := h1.below hb2; have k1 := h2.st.cell1; have k2 := h2.st.free1; have h3 := h2.adv1 hl))
      go_meet
      case rel => rw [E1.out, E2.out, C.out]; exact ⟨rfl, rfl, h3⟩
    · have c' : sgn r 0 = false := by simpa using c
      have E1 := Lib.hid (show runesBytes (sgl r) = ⟨#[]⟩ by unfold sgl; rw [if_neg c]; rfl)
      have E2 := Lib.hid (show num1 r = r by unfold num1; rw [if_neg c])
      have C := Lib.hid c'
      rw [c']
      clear c c'
      go_wp2
      go_meet
      case rel => rw [E1.out, E2.out, C.out]; exact ⟨rfl, rfl, hn⟩
   case rest =>
    obtain ⟨rfl, rfl, hn2⟩ := hcut
    have hq1 := hn2.st.rlen
    have z1 : ¬ 9223372036854775807 < (runesBytes (sgl r)).size + (runesBytes (dgs (num1 r))).size := by
     have e1 := runesBytes_size_le (sgl r)
     have e2 := runesBytes_size_le (dgs (num1 r))
     have e3 := dgs_len (num1 r)
     have e4 : (sgl r).length ≤ 1 := by unfold sgl; split <;> simp
     omega
    clear hn
    go_upto_region 8 with (go_at_call 71; (with_reducible refine (rdigits_any hn2).mono ?_); rintro e w1 ⟨rfl, h1⟩)
    have h1 : Now 101 g v xs (num2 r) (w.alloc zeroT) w1 := h1
    clear hn2
    go_cut [38] (fun s38 wx => s38 = .bool (frac (num2 r) 0) ∧ Now 101 g v xs (num2 r) (w.alloc zeroT) wx)
    case first =>
     go_wp2_with (first | (go_at_call 28; (with_reducible refine (sign_0 (by assumption)).mono ?_); rintro e w1 ⟨rfl, h1⟩) | (go_at_call 28; (with_reducible refine (sign_1 (by assumption)).mono ?_); rintro e w1 ⟨rfl, h1⟩) | (go_at_call 28; (with_reducible refine (sign_2 (by assumption)).mono ?_); rintro e w1 ⟨rfl, h1⟩) | (first | (go_at_call 50; refine (refdigit_any _ _).mono ?_; rintro e w1 ⟨rfl, rfl⟩)))
     all_goals (go_meet; case rel => exact ⟨ret_b (by grind [frac]), by assumption⟩)
    case rest =>
     obtain ⟨rfl, hn⟩ := hcut
     clear h1
     go_upto_if 38 with fail
     go_cut [5] (fun s5 wx => s5 = .bool (!frac (num2 r) 0) ∧ Now 101 g v xs (num3 r) (w.alloc zeroT) wx)
     case first =>
      by_cases c : frac (num2 r) 0 = true
      · have hl := frac_len c
        have C := Lib.hid c
        rw [c]
        have E := Lib.hid (show num3 r = cnt (dp 1 (num2 r)) by unfold num3; rw [if_pos c])
        have k1 := hn.st.cell1
        have k2 := hn.st.free1
        have h2 := hn.adv1 hl
        have hq2 := hn.st.rlen
        go_wp2_with (go_at_call 71; (with_reducible refine (rdigits_any h2).mono ?_); rintro e w1 ⟨rfl, h1⟩)
        go_meet
        case rel => rw [E.out, C.out]; exact ⟨rfl, h1⟩
      · have E := Lib.hid (show num3 r = num2 r by unfold num3; rw [if_neg c])
        have c' : frac (num2 r) 0 = false := by simpa using c
        have C := Lib.hid c'
        rw [c']
        clear c c'
        go_wp2
        go_meet
        case rel => rw [E.out, C.out]; exact ⟨rfl, hn⟩
     case rest =>
      obtain ⟨rfl, hn3⟩ := hcut
      clear hn
      go_upto_region 12 with fail
      go_cut [55] (fun s55 wx => s55 = .bool (decide (ah (num3 r) 0 = 101 ∨ ah (num3 r) 0 = 69)) ∧ Now 101 g v xs (num3 r) (w.alloc zeroT) wx)
      case first =>
       go_wp2_with (first | (go_at_call 28; (with_reducible refine (sign_0 (by assumption)).mono ?_); rintro e w1 ⟨rfl, h1⟩) | (go_at_call 28; (with_reducible refine (sign_1 (by assumption)).mono ?_); rintro e w1 ⟨rfl, h1⟩) | (go_at_call 28; (with_reducible refine (sign_2 (by assumption)).mono ?_); rintro e w1 ⟨rfl, h1⟩))
       all_goals (go_meet; case rel => exact ⟨ret_b (by grind), by assumption⟩)
      case rest =>
       obtain ⟨rfl, hn⟩ := hcut
       clear hn3
       go_upto_if 55 with fail
       go_cut [5] (fun s5 wx => s5 = .bool (numW r) ∧ Now 101 g v xs (num4 r) (w.alloc zeroT) wx)
       case first =>
        have k1 := hn.st.cell1
        have k2 := hn.st.free1
        have hq3 := hn.st.rlen
        by_cases c : ah (num3 r) 0 = 101 ∨ ah (num3 r) 0 = 69
        · have hd : decide (ah (num3 r) 0 = 101 ∨ ah (num3 r) 0 = 69) = true := by simpa using c
          have C := Lib.hid c
          have E4 := Lib.hid (show ∀ n, expo (num3 r) = n → 0 < n → num4 r = cnt (dp n (num3 r)) ∧ numW r = false from fun n hn hp => by unfold num4 numW; rw [hn]; refine ⟨by rw [if_pos hp], ?_⟩; have : decide (n = 0) = false := (by simp; omega); rw [this, Bool.and_false])
          have E0 := Lib.hid (show expo (num3 r) = 0 → num4 r = num3 r ∧ numW r = !frac (num2 r) 0 from fun hn => by unfold num4 numW; rw [hn]; exact ⟨rfl, by simp⟩)
          have EL := Lib.hid (show ∀ n, expo (num3 r) = n → n ≤ (num3 r).length from fun n hn => by rw [← hn]; exact expo_len _)
          clear c
          rw [hd]
          clear hd
          generalize num3 r = q at *
          by_cases a43 : ah q 1 = 43
          · by_cases hd2 : sDigit (ah q 2) = true
            · have b43 : (ah q 1 == 43) = true := by simp [a43]
              have hsg : sgn q 1 = true := by simp [sgn, a43]
              have hex : expo q = 2 := by unfold expo; rw [if_pos C.out, hsg]; simp [hd2]
              obtain ⟨e1, e2⟩ := E4.out 2 hex (by omega)
              have hel := EL.out 2 hex
              have X1 := Lib.hid e1
              have X2 := Lib.hid e2
              clear e1 e2 hsg hex E4 E0 EL C a43
              go_wp2_with (first | (go_at_call 28; (with_reducible refine (sign_1 hn).mono ?_); rintro e w1 ⟨rfl, h1⟩) | (go_at_call 28; (with_reducible refine (sign_1 h1).mono ?_); rintro e w1 ⟨rfl, h1⟩; have k1 := h1.st.cell1; have k2 := h1.st.free1; have h2 := h1.advN 2 hel (u := ((xs.length - q.length : Nat) : Int) + 2) (by omega)) | (go_at_call 28; (with_reducible refine (sign_2 h1).mono ?_); rintro e w1 ⟨rfl, h1⟩; have k1 := h1.st.cell1; have k2 := h1.st.free1; have h2 := h1.advN 2 hel (u := ((xs.length - q.length : Nat) : Int) + 2) (by omega)) | (first | (go_at_call 50; refine (refdigit_any _ _).mono ?_; rintro e w1 ⟨rfl, rfl⟩)) | (go_at_call 71; (with_reducible refine (rdigits_any h2).mono ?_); rintro e w1 ⟨rfl, h1⟩))
              go_meet
              case rel => rw [X1.out, X2.out]; exact ⟨rfl, h1⟩
            · have b43 : (ah q 1 == 43) = true := by simp [a43]
              have hsg : sgn q 1 = true := by simp [sgn, a43]
              have hex : expo q = 0 := by unfold expo; rw [if_pos C.out, hsg]; simp [hd2]
              obtain ⟨e1, e2⟩ := E0.out hex
              have X1 := Lib.hid e1
              have X2 := Lib.hid e2
              clear e1 e2 hsg hex E4 E0 EL C a43
              have hd3 : sDigit (ah q 2) = false := by simpa using hd2
              go_wp2_with (first | (go_at_call 28; (with_reducible refine (sign_1 hn).mono ?_); rintro e w1 ⟨rfl, h1⟩) | (go_at_call 28; (with_reducible refine (sign_1 h1).mono ?_); rintro e w1 ⟨rfl, h1⟩) | (go_at_call 28; (with_reducible refine (sign_2 h1).mono ?_); rintro e w1 ⟨rfl, h1⟩) | (first | (go_at_call 50; refine (refdigit_any _ _).mono ?_; rintro e w1 ⟨rfl, rfl⟩)))
              go_meet
              case rel => rw [X1.out, X2.out]; exact ⟨rfl, h1⟩
          · by_cases a45 : ah q 1 = 45
            · by_cases hd2 : sDigit (ah q 2) = true
              · have b43 : (ah q 1 == 43) = false := by simp [a45]
                have b45 : (ah q 1 == 45) = true := by simp [a45]
                have hsg : sgn q 1 = true := by simp [sgn, a45]
                have hex : expo q = 2 := by unfold expo; rw [if_pos C.out, hsg]; simp [hd2]
                obtain ⟨e1, e2⟩ := E4.out 2 hex (by omega)
                have hel := EL.out 2 hex
                have X1 := Lib.hid e1
                have X2 := Lib.hid e2
                clear e1 e2 hsg hex E4 E0 EL C a45 a43
                go_wp2_with (first | (go_at_call 28; (with_reducible refine (sign_1 hn).mono ?_); rintro e w1 ⟨rfl, h1⟩) | (go_at_call 28; (with_reducible refine (sign_1 h1).mono ?_); rintro e w1 ⟨rfl, h1⟩; have k1 := h1.st.cell1; have k2 := h1.st.free1; have h2 := h1.advN 2 hel (u := ((xs.length - q.length : Nat) : Int) + 2) (by omega)) | (go_at_call 28; (with_reducible refine (sign_2 h1).mono ?_); rintro e w1 ⟨rfl, h1⟩; have k1 := h1.st.cell1; have k2 := h1.st.free1; have h2 := h1.advN 2 hel (u := ((xs.length - q.length : Nat) : Int) + 2) (by omega)) | (first | (go_at_call 50; refine (refdigit_any _ _).mono ?_; rintro e w1 ⟨rfl, rfl⟩)) | (go_at_call 71; (with_reducible refine (rdigits_any h2).mono ?_); rintro e w1 ⟨rfl, h1⟩))
                go_meet
                case rel => rw [X1.out, X2.out]; exact ⟨rfl, h1⟩
              · have b43 : (ah q 1 == 43) = false := by simp [a45]
                have b45 : (ah q 1 == 45) = true := by simp [a45]
                have hsg : sgn q 1 = true := by simp [sgn, a45]
                have hex : expo q = 0 := by unfold expo; rw [if_pos C.out, hsg]; simp [hd2]
                obtain ⟨e1, e2⟩ := E0.out hex
                have X1 := Lib.hid e1
                have X2 := Lib.hid e2
                clear e1 e2 hsg hex E4 E0 EL C a45 a43
                have hd3 : sDigit (ah q 2) = false := by simpa using hd2
                go_wp2_with (first | (go_at_call 28; (with_reducible refine (sign_1 hn).mono ?_); rintro e w1 ⟨rfl, h1⟩) | (go_at_call 28; (with_reducible refine (sign_1 h1).mono ?_); rintro e w1 ⟨rfl, h1⟩) | (go_at_call 28; (with_reducible refine (sign_2 h1).mono ?_); rintro e w1 ⟨rfl, h1⟩) | (first | (go_at_call 50; refine (refdigit_any _ _).mono ?_; rintro e w1 ⟨rfl, rfl⟩)))
                go_meet
                case rel => rw [X1.out, X2.out]; exact ⟨rfl, h1⟩
            · by_cases hd2 : sDigit (ah q 1) = true
              · have b43 : (ah q 1 == 43) = false := by simp [a43]
                have b45 : (ah q 1 == 45) = false := by simp [a45]
                have hsg : sgn q 1 = false := by simp [sgn, a43, a45]
                have hex : expo q = 1 := by unfold expo; rw [if_pos C.out, hsg]; simp [hd2]
                obtain ⟨e1, e2⟩ := E4.out 1 hex (by omega)
                have hel := EL.out 1 hex
                have X1 := Lib.hid e1
                have X2 := Lib.hid e2
                clear e1 e2 hsg hex E4 E0 EL C a43 a45
                go_wp2_with (first | (go_at_call 28; (with_reducible refine (sign_1 hn).mono ?_); rintro e w1 ⟨rfl, h1⟩) | (go_at_call 28; (with_reducible refine (sign_1 h1).mono ?_); rintro e w1 ⟨rfl, h1⟩; have k1 := h1.st.cell1; have k2 := h1.st.free1; have h2 := h1.advN 1 hel (u := ((xs.length - q.length : Nat) : Int) + 1) (by omega)) | (go_at_call 28; (with_reducible refine (sign_2 h1).mono ?_); rintro e w1 ⟨rfl, h1⟩; have k1 := h1.st.cell1; have k2 := h1.st.free1; have h2 := h1.advN 1 hel (u := ((xs.length - q.length : Nat) : Int) + 1) (by omega)) | (first | (go_at_call 50; refine (refdigit_any _ _).mono ?_; rintro e w1 ⟨rfl, rfl⟩)) | (go_at_call 71; (with_reducible refine (rdigits_any h2).mono ?_); rintro e w1 ⟨rfl, h1⟩))
                go_meet
                case rel => rw [X1.out, X2.out]; exact ⟨rfl, h1⟩
              · have b43 : (ah q 1 == 43) = false := by simp [a43]
                have b45 : (ah q 1 == 45) = false := by simp [a45]
                have hsg : sgn q 1 = false := by simp [sgn, a43, a45]
                have hex : expo q = 0 := by unfold expo; rw [if_pos C.out, hsg]; simp [hd2]
                obtain ⟨e1, e2⟩ := E0.out hex
                have X1 := Lib.hid e1
                have X2 := Lib.hid e2
                clear e1 e2 hsg hex E4 E0 EL C a43 a45
                have hd3 : sDigit (ah q 1) = false := by simpa using hd2
                go_wp2_with (first | (go_at_call 28; (with_reducible refine (sign_1 hn).mono ?_); rintro e w1 ⟨rfl, h1⟩) | (go_at_call 28; (with_reducible refine (sign_1 h1).mono ?_); rintro e w1 ⟨rfl, h1⟩) | (go_at_call 28; (with_reducible refine (sign_2 h1).mono ?_); rintro e w1 ⟨rfl, h1⟩) | (first | (go_at_call 50; refine (refdigit_any _ _).mono ?_; rintro e w1 ⟨rfl, rfl⟩)))
                go_meet
                case rel => rw [X1.out, X2.out]; exact ⟨rfl, h1⟩
        · have hd : decide (ah (num3 r) 0 = 101 ∨ ah (num3 r) 0 = 69) = false := by simpa using c
          have X1 := Lib.hid (show num4 r = num3 r by unfold num4 expo; rw [if_neg c]; rfl)
          have X2 := Lib.hid (show numW r = !frac (num2 r) 0 by unfold numW expo; rw [if_neg c]; simp)
          rw [hd]
          clear c hd
          go_wp2
          go_meet
          case rel => rw [X1.out, X2.out]; exact ⟨rfl, hn⟩
       case rest =>
        obtain ⟨rfl, hn4⟩ := hcut
        clear hn
        go_upto_if 82 with fail
        have hB0 : Now 101 g v xs (num4 r) w0 (wc.alloc (.cells #[.int .i64 10, .string ⟨#[]⟩, .int .i64 0, .bool (numW r), .bool (sgn r 0), .bool false] 94)) := (hn4.since (h.alloc zeroT)).alloc _
        have hZ1 := (hZ.keep hn4 hgo).alloc (.cells #[.int .i64 10, .string ⟨#[]⟩, .int .i64 0, .bool (numW r), .bool (sgn r 0), .bool false] 94)
        have hT : TokB wc.heap.size { kind := 10, whole := numW r, sign := sgn r 0 } (wc.alloc (.cells #[.int .i64 10, .string ⟨#[]⟩, .int .i64 0, .bool (numW r), .bool (sgn r 0), .bool false] 94)) := heap_alloc_self _ _
        have hg4 : w.heap.size < wc.heap.size := by have := hn4.gw.size; simp at this; omega
        have hg5 : g < wc.heap.size := by omega
        have hsz : (runesBytes (sgl r) ++ runesBytes (dgs (num1 r))).size ≤ 1000000000 := by
         rw [← runesBytes_append]
         have e1 := runesBytes_size_le (sgl r ++ dgs (num1 r))
         have e2 : (sgl r ++ dgs (num1 r)).length ≤ r.length := by rw [← num_take, List.length_take]; omega
         omega
        have HS := Lib.hid (show runesBytes (sgl r) ++ runesBytes (dgs (num1 r)) = runesBytes (r.take (r.length - (num2 r).length)) by rw [← runesBytes_append, num_take])
        clear hn4 hZ h z1
        generalize wc.alloc (.cells #[.int .i64 10, .string ⟨#[]⟩, .int .i64 0, .bool (numW r), .bool (sgn r 0), .bool false] 94) = wB at *
        generalize wc.heap.size = b4 at *
        go_cut [5] (fun _ wx => TokB b4 { plainT r with kind := 10 } wx ∧ TokB w.heap.size { kind := 0 } wx ∧ Now 101 g v xs (num4 r) w0 wx)
        case first =>
         have hc4 := hT.cells
         by_cases c : numW r = true
         · have X := Lib.hid (show ({ plainT r with kind := 10 } : Tok) = { kind := 10, int := intV (nums (runesBytes (r.take (r.length - (num2 r).length)))), whole := numW r, sign := sgn r 0 } by unfold plainT; rw [if_pos c])
           rw [c]
           clear c
           go_wp2_with (go_at_call 72; (with_reducible refine (refint_any _ _ hsz).mono ?_); rintro e w1 ⟨rfl, rfl⟩)
           go_meet
           case rel =>
            rw [X.out, ← HS.out]
            exact ⟨hT.int _, hZ1.other (p := ⟨b4, 2, none⟩) (by show w.heap.size ≠ b4; omega) _, hB0.set (p := ⟨b4, 2, none⟩) (by show w0.heap.size ≤ b4; omega) _⟩
         · have c' : numW r = false := by simpa using c
           have X := Lib.hid (show ({ plainT r with kind := 10 } : Tok) = { kind := 10, whole := numW r, sign := sgn r 0 } by unfold plainT; rw [if_neg c])
           rw [c']
           clear c c'
           go_wp2
           go_meet
           case rel => rw [X.out]; exact ⟨hT, hZ1, hB0⟩
        case rest =>
         obtain ⟨hT2, hZ2, hn5⟩ := hcut
         clear hT hZ1 hB0 HS hsz
         have h1 := hn5.st.now
         by_cases c : nbg (num4 r) 0 = true
         · have e : numberT r = ({ plainT r with kind := 12, text := runesBytes (nm (num4 r)).1 }, (nm (num4 r)).2) := by unfold numberT; rw [if_pos c]
           have HE := Lib.hid e
           clear e
           go_wp2_with (go_at_call 48; (with_reducible refine (rnames_0 h1).mono ?_); rintro e w1 ⟨rfl, h1⟩; have hc4 := (hT2.keep h1 hg5).cells)
           have hS := (h1.since hn5).set (p := ⟨b4, 0, none⟩) (by show w0.heap.size ≤ b4; omega) (.int .i64 12)
           have hT3 := (hT2.keep h1 hg5).kind 12
           have hZ3 := (hZ2.keep h1 hgo).other (p := ⟨b4, 0, none⟩) (by show w.heap.size ≠ b4; omega) (.int .i64 12)
           clear hc4 h1
           generalize w1.setCell ⟨b4, 0, none⟩ (.int .i64 12) = wC at *
           have h1 := hS.st.now
           go_wp2_with (go_at_call 49; (with_reducible refine (rname_any h1).mono ?_); rintro e w1 ⟨rfl, h1⟩; have hc4 := (hT3.keep h1 hg5).cells; have hcz := (hZ3.keep h1 hgo).cells)
           refine bodyPost_ret (v := Tok.val { plainT r with kind := 12, text := runesBytes (nm (num4 r)).1 }) ?_ rfl ⟨by rw [HE.out], ?_⟩
           · simp [results, Tryz.results52, go_sem, hcz, Tok.val]
           · rw [HE.out]; exact ((h1.since hS).set (p := ⟨b4, 1, none⟩) (by show w0.heap.size ≤ b4; omega) _).put6 hws _ _ _ _ _ _
         · have c2 : nbg (num4 r) 0 = false := by simpa using c
           by_cases d : (ah (num4 r) 0 == 37) = true
           · have hl : 1 ≤ (num4 r).length := len_of_ah (n := 0) (by intro e; rw [e] at d; exact absurd d (by decide))
             have e : numberT r = ({ plainT r with kind := 11 }, dp 1 (num4 r)) := by unfold numberT; rw [if_neg c, if_pos (by rw [pre_one 37 _ (by decide)]; exact d)]
             have HE := Lib.hid e
             have hq4 := hn5.st.rlen
             clear e c
             go_wp2_with (first | (go_at_call 48; (with_reducible refine (rnames_0 h1).mono ?_); rintro e w1 ⟨rfl, h1⟩) | (go_at_call 28; (with_reducible refine (sign_0 h1).mono ?_); rintro e w1 ⟨rfl, h1⟩; have k1 := h1.st.cell1; have k2 := h1.st.free1; have h2 := h1.adv1 hl; have hc4 := (hT2.keep h2 hg5).cells; have hcz := (hZ2.keep h2 hgo).cells))
             refine bodyPost_ret (v := Tok.val { plainT r with kind := 11 }) ?_ rfl ⟨by rw [HE.out], ?_⟩
             · simp [results, Tryz.results52, go_sem, hcz, Tok.val]
             · rw [HE.out]; exact ((h2.since hn5).set (p := ⟨b4, 0, none⟩) (by show w0.heap.size ≤ b4; omega) _).put6 hws _ _ _ _ _ _
           · have d2 : (ah (num4 r) 0 == 37) = false := by simpa using d
             have e : numberT r = ({ plainT r with kind := 10 }, num4 r) := by unfold numberT; rw [if_neg c, if_neg (by rw [pre_one 37 _ (by decide)]; exact d)]
             have HE := Lib.hid e
             clear e c d
             go_wp2_with (first | (go_at_call 48; (with_reducible refine (rnames_0 h1).mono ?_); rintro e w1 ⟨rfl, h1⟩) | (go_at_call 28; (with_reducible refine (sign_0 h1).mono ?_); rintro e w1 ⟨rfl, h1⟩; have hc4 := (hT2.keep h1 hg5).cells; have hcz := (hZ2.keep h1 hgo).cells))
             refine bodyPost_ret (v := Tok.val { plainT r with kind := 10 }) ?_ rfl ⟨by rw [HE.out], ?_⟩
             · simp [results, Tryz.results52, go_sem, hcz, Tok.val]
             · rw [HE.out]; exact (h1.since hn5).put6 hws _ _ _ _ _ _
end
def plL : List Int := [40, 91, 123, 41, 93, 125, 44, 58, 59]
def kdL : List Int := [19, 19, 19, 20, 20, 20, 18, 16, 17]
theorem pre_ah4 {a b c d : Int} {r : List Int} (h : ah r 0 ≠ a) (ha : a ≠ -1) (hb : b ≠ -1) (hc : c ≠ -1) (hd : d ≠ -1) : pre [a, b, c, d] r = false := by
 by_cases hp : pre [a, b, c, d] r = true
 · exfalso
   have := (pre_iff [a, b, c, d] r (by intro x hx; simp at hx; rcases hx with rfl | rfl | rfl | rfl; exact ha; exact hb; exact hc; exact hd)).1 hp 0 (by simp)
   exact h (by simpa [nth] using this)
 · simpa using hp
theorem tokT_one {r : List Int} {a : Int} (ha : ah r 0 = a) (h1 : sWhite a = false) (h2 : ¬ (a = 34 ∨ a = 39)) (h3 : a ≠ 35) (h4 : a ≠ 64) (h5 : sDigit a = false) (h6 : a ≠ 43) (h7 : a ≠ 45) (h8 : a ≠ 46) (h9 : a ≠ 60) (h10 : sLetter a = false) (h11 : a ≠ 92) :
    tokT r = (markT a, dp 1 r) := by
  have n1 : numB r = false := by simp [numB, sgn, frac, ha, h5, h6, h7, h8]
  have n2 : pre [45, 45, 62] r = false := pre_ah3 (by rw [ha]; exact h7) (by decide) (by decide) (by decide)
  have n3 : pre [60, 33, 45, 45] r = false := pre_ah4 (by rw [ha]; exact h9) (by decide) (by decide) (by decide) (by decide)
  have n4 : nbg r 0 = false := by simp [nbg, esc, ha, h7, h10, h11]
  unfold tokT
  rw [ha, h1, n1, n2, n3, n4, if_neg (by decide), if_neg h2, if_neg h3, if_neg h4, if_neg (by decide), if_neg (by decide), if_neg (by decide), if_neg (by decide)]
theorem tokT_plain {r : List Int} {k : Nat} (hk : k < 9) (h : nth plL k = ah r 0) : tokT r = ({ kind := nth kdL k, text := if k < 6 then Utf8.encode (ah r 0) else ⟨#[]⟩ }, dp 1 r) := by
 have hm : ∀ j : Fin 9, sWhite (nth plL j) = false ∧ ¬ (nth plL j = 34 ∨ nth plL j = 39) ∧ nth plL j ≠ 35 ∧ nth plL j ≠ 64 ∧ sDigit (nth plL j) = false ∧ nth plL j ≠ 43 ∧ nth plL j ≠ 45 ∧ nth plL j ≠ 46 ∧ nth plL j ≠ 60 ∧ sLetter (nth plL j) = false ∧ nth plL j ≠ 92 := by decide +kernel
 obtain ⟨h1, h2, h3, h4, h5, h6, h7, h8, h9, h10, h11⟩ := hm ⟨k, hk⟩
 have ha : ah r 0 = nth plL k := h.symm
 rw [tokT_one ha h1 h2 h3 h4 h5 h6 h7 h8 h9 h10 h11, ha]
 congr 1
 have : k = 0 ∨ k = 1 ∨ k = 2 ∨ k = 3 ∨ k = 4 ∨ k = 5 ∨ k = 6 ∨ k = 7 ∨ k = 8 := by omega
 rcases this with rfl | rfl | rfl | rfl | rfl | rfl | rfl | rfl | rfl <;> rfl
theorem markT_else {a : Int} (h : ∀ j, j < 9 → ¬ nth plL j = a) : markT a = { kind := 9, text := Utf8.encode a } := by
 have h0 := h 0 (by decide); have h1 := h 1 (by decide); have h2 := h 2 (by decide); have h3 := h 3 (by decide); have h4 := h 4 (by decide); have h5 := h 5 (by decide); have h6 := h 6 (by decide); have h7 := h 7 (by decide); have h8 := h 8 (by decide)
 simp only [nth, plL, List.getD_cons_succ, List.getD_cons_zero] at h0 h1 h2 h3 h4 h5 h6 h7 h8
 unfold markT
 rw [if_neg (Ne.symm h6), if_neg (Ne.symm h7), if_neg (Ne.symm h8), if_neg (by rintro (e | e | e) <;> first | exact h0 e.symm | exact h1 e.symm | exact h2 e.symm), if_neg (by rintro (e | e | e) <;> first | exact h3 e.symm | exact h4 e.symm | exact h5 e.symm)]
theorem tok_white {r : List Int} (h : sWhite (ah r 0) = true) : tokT r = ({ kind := 13 }, wh r) := by unfold tokT; rw [if_pos h]
theorem tok_quote {r : List Int} (h0 : sWhite (ah r 0) = false) (h : ah r 0 = 34 ∨ ah r 0 = 39) : tokT r = quotedT r := by unfold tokT; rw [h0, if_neg (by decide), if_pos h]
theorem tok_hash {r : List Int} (h : ah r 0 = 35) (h2 : (sName (ah r 1) || esc r 1) = true) : tokT r = ({ kind := 4, text := runesBytes (nm (dp 1 r)).1, id := nbg (dp 1 r) 0 }, (nm (dp 1 r)).2) := by
 unfold tokT hashT; rw [h, if_neg (by decide), if_neg (by decide), if_pos rfl, if_pos h2]
theorem tok_at {r : List Int} (h : ah r 0 = 64) (h2 : nbg r 1 = true) : tokT r = ({ kind := 3, text := runesBytes (nm (dp 1 r)).1 }, (nm (dp 1 r)).2) := by
 unfold tokT atT; rw [h, if_neg (by decide), if_neg (by decide), if_neg (by decide), if_pos rfl, if_pos h2]
theorem numB_signs {r : List Int} (h : numB r = true) : ah r 0 = 43 ∨ ah r 0 = 45 ∨ ah r 0 = 46 ∨ sDigit (ah r 0) = true := by
 unfold numB frac sgn at h
 by_cases c : (decide (ah r 0 = 43 ∨ ah r 0 = 45)) = true
 · simp at c; rcases c with c | c
   · exact .inl c
   · exact .inr (.inl c)
 · rw [if_neg c] at h
   simp at h
   rcases h with h | h
   · exact .inr (.inr (.inr h))
   · exact .inr (.inr (.inl h.1))
theorem tok_num {r : List Int} (h : numB r = true) : tokT r = numberT r := by
 have hs := numB_signs h
 have h0 : sWhite (ah r 0) = false ∧ ¬ (ah r 0 = 34 ∨ ah r 0 = 39) ∧ ah r 0 ≠ 35 ∧ ah r 0 ≠ 64 := by
  generalize ah r 0 = a at hs
  simp [sDigit] at hs
  simp [sWhite]
  omega
 unfold tokT
 rw [h0.1, if_neg (by decide), if_neg h0.2.1, if_neg h0.2.2.1, if_neg h0.2.2.2, if_pos h]
theorem tok_rest {r : List Int} (h0 : sWhite (ah r 0) = false) (h1 : ¬ (ah r 0 = 34 ∨ ah r 0 = 39)) (h2 : ¬ (ah r 0 = 35 ∧ (sName (ah r 1) || esc r 1) = true)) (h3 : ¬ (ah r 0 = 64 ∧ nbg r 1 = true)) (h4 : numB r = false) (h5 : ∀ j, j < 9 → ¬ nth plL j = ah r 0) :
    tokT r = if pre [45, 45, 62] r then ({ kind := 15 }, dp 3 r) else if pre [60, 33, 45, 45] r then ({ kind := 14 }, dp 4 r) else if nbg r 0 then identT r else ({ kind := 9, text := Utf8.encode (ah r 0) }, dp 1 r) := by
  have hm := markT_else h5
  unfold tokT
  rw [h0, if_neg (by decide), if_neg h1, hm]
  by_cases a : ah r 0 = 35
  · rw [if_pos a]
    unfold hashT
    rw [if_neg (fun h => h2 ⟨a, h⟩), hm]
    have n2 : pre [45, 45, 62] r = false := pre_ah3 (by rw [a]; decide) (by decide) (by decide) (by decide)
    have n3 : pre [60, 33, 45, 45] r = false := pre_ah4 (by rw [a]; decide) (by decide) (by decide) (by decide) (by decide)
    have n4 : nbg r 0 = false := by simp [nbg, esc, a, sLetter]
    rw [n2, n3, n4]
    rfl
  · rw [if_neg a]
    by_cases b : ah r 0 = 64
    · rw [if_pos b]
      unfold atT
      rw [if_neg (fun h => h3 ⟨b, h⟩), hm]
      have n2 : pre [45, 45, 62] r = false := pre_ah3 (by rw [b]; decide) (by decide) (by decide) (by decide)
      have n3 : pre [60, 33, 45, 45] r = false := pre_ah4 (by rw [b]; decide) (by decide) (by decide) (by decide) (by decide)
      have n4 : nbg r 0 = false := by simp [nbg, esc, b, sLetter]
      rw [n2, n3, n4]
      rfl
    · rw [if_neg b, h4]
      rfl
theorem pre_three (r : List Int) : pre [45, 45, 62] r = (ah r 0 == 45 && (ah r 1 == 45 && ah r 2 == 62)) := by
 have h := pre_iff [45, 45, 62] r (by decide)
 rw [Bool.eq_iff_iff, h]
 constructor
 · intro hh; have h0 := hh 0 (by decide); have h1 := hh 1 (by decide); have h2 := hh 2 (by decide)
   simp [nth] at h0 h1 h2
   simp [h0, h1, h2]
 · intro hh j hj
   simp at hh
   have : j = 0 ∨ j = 1 ∨ j = 2 := by simp at hj; omega
   rcases this with rfl | rfl | rfl <;> simp [nth, hh]
theorem pre_four (r : List Int) : pre [60, 33, 45, 45] r = (ah r 0 == 60 && (ah r 1 == 33 && (ah r 2 == 45 && ah r 3 == 45))) := by
 have h := pre_iff [60, 33, 45, 45] r (by decide)
 rw [Bool.eq_iff_iff, h]
 constructor
 · intro hh; have h0 := hh 0 (by decide); have h1 := hh 1 (by decide); have h2 := hh 2 (by decide); have h3 := hh 3 (by decide)
   simp [nth] at h0 h1 h2 h3
   simp [h0, h1, h2, h3]
 · intro hh j hj
   simp at hh
   have : j = 0 ∨ j = 1 ∨ j = 2 ∨ j = 3 := by simp at hj; omega
   rcases this with rfl | rfl | rfl | rfl <;> simp [nth, hh]
abbrev plO : Obj := .cells #[.int .i32 40, .int .i32 91, .int .i32 123, .int .i32 41, .int .i32 93, .int .i32 125, .int .i32 44, .int .i32 58, .int .i32 59] 21
abbrev kdO : Obj := .cells #[.int .i64 19, .int .i64 19, .int .i64 19, .int .i64 20, .int .i64 20, .int .i64 20, .int .i64 18, .int .i64 16, .int .i64 17] 3
theorem rtok_tabs (w1 : World) : (∀ j, j < 9 → ((w1.alloc plO).alloc kdO).cell? ⟨w1.heap.size, j, none⟩ = some (.int .i32 (nth plL j))) ∧ ∀ j, j < 9 → ((w1.alloc plO).alloc kdO).cell? ⟨w1.heap.size + 1, j, none⟩ = some (.int .i64 (nth kdL j)) := by
 have hp : ((w1.alloc plO).alloc kdO).heap[w1.heap.size]? = some plO := by
  rw [Below.heap_alloc _ _ _ (by simp)]; exact heap_alloc_self _ _
 have hk := heap_alloc_self (w1.alloc plO) kdO
 rw [show (w1.alloc plO).heap.size = w1.heap.size + 1 by simp] at hk
 constructor
 · intro j hj
   simp only [World.cell?, hp]
   have : j = 0 ∨ j = 1 ∨ j = 2 ∨ j = 3 ∨ j = 4 ∨ j = 5 ∨ j = 6 ∨ j = 7 ∨ j = 8 := by omega
   rcases this with rfl | rfl | rfl | rfl | rfl | rfl | rfl | rfl | rfl <;> rfl
 · intro j hj
   simp only [World.cell?, hk]
   have : j = 0 ∨ j = 1 ∨ j = 2 ∨ j = 3 ∨ j = 4 ∨ j = 5 ∨ j = 6 ∨ j = 7 ∨ j = 8 := by omega
   rcases this with rfl | rfl | rfl | rfl | rfl | rfl | rfl | rfl | rfl <;> rfl
end Go.Proofs.YtclicjiakkcfcaaGreatDoor
