
import Derived.Test.YtlajkfnlkkgneaaDoorAnW
namespace Go.Proofs.YtlajkfnlkkgneaaDoor
open Go.RowKit Go.Shelf
/-! No token's text is longer than four bytes for each sign. -/
theorem enc_le (x : Int) : (Utf8.encode x).size ≤ 4 := by
  have := encode_size_le x
  omega
theorem runesBytes_le (l : List Int) : (runesBytes l).size ≤ 4 * l.length := by
  have h1 : (runesBytes l).size = (l.flatMap encB).length := by rw [← runesBytes_list, Array.length_toList]; rfl
  rw [h1]
  clear h1
  induction l with
  | nil => simp
  | cons a l ih =>
    have h2 : (encB a).length = (Utf8.encode a).size := by unfold encB; rw [Array.length_toList]; rfl
    have := enc_le a
    rw [List.flatMap_cons, List.length_append, List.length_cons]
    omega
theorem nm_le (r : List Int) : (nm r).1.length ≤ r.length := nm_length _ _
theorem qt_le (q : Int) (r : List Int) : (qt q r).2.1.length ≤ r.length := by
  induction r using qt.induct q with
  | case1 r h => unfold qt; rw [dif_pos h]; exact Nat.zero_le _
  | case2 r h h2 => unfold qt; rw [dif_neg h, if_pos h2]; exact Nat.zero_le _
  | case3 r h h2 h3 => unfold qt; rw [dif_neg h, if_neg h2, if_pos h3]; exact Nat.zero_le _
  | case4 r h h2 h3 h4 ih =>
    unfold qt; rw [dif_neg h, if_neg h2, if_neg h3, if_pos h4]
    have := dp_lt h
    show ((qt q (dp 1 r)).2.1).length + 1 ≤ _
    omega
  | case5 r h h2 h3 h4 h5 => unfold qt; rw [dif_neg h, if_neg h2, if_neg h3, if_neg h4, if_pos h5]; exact Nat.zero_le _
  | case6 r h h2 h3 h4 h5 h6 ih =>
    unfold qt; rw [dif_neg h, if_neg h2, if_neg h3, if_neg h4, if_neg h5, if_pos h6]
    have := escT_lt h
    show ((qt q (escT (dp 1 r)).2).2.1).length + 1 ≤ _
    omega
  | case7 r h h2 h3 h4 h5 h6 ih =>
    unfold qt; rw [dif_neg h, if_neg h2, if_neg h3, if_neg h4, if_neg h5, if_neg h6]
    have := dp_len 2 r
    omega
theorem adr_le (r : List Int) : (adr r).2.1.length ≤ r.length := by
  induction r using adr.induct with
  | case1 r h => unfold adr; rw [dif_pos h]; exact Nat.zero_le _
  | case2 r h h2 => unfold adr; rw [dif_neg h, if_pos h2]; exact Nat.zero_le _
  | case3 r h h2 h3 ih =>
    unfold adr; rw [dif_neg h, if_neg h2, if_pos h3]
    have := escT_lt h
    show ((adr (escT (dp 1 r)).2).2.1).length + 1 ≤ _
    omega
  | case4 r h h2 h3 h4 h5 => unfold adr; rw [dif_neg h, if_neg h2, if_neg h3, if_pos h4, if_pos h5]; exact Nat.zero_le _
  | case5 r h h2 h3 h4 h5 h6 => unfold adr; rw [dif_neg h, if_neg h2, if_neg h3, if_pos h4, if_neg h5, if_pos h6]; exact Nat.zero_le _
  | case6 r h h2 h3 h4 h5 h6 => unfold adr; rw [dif_neg h, if_neg h2, if_neg h3, if_pos h4, if_neg h5, if_neg h6]; exact Nat.zero_le _
  | case7 r h h2 h3 h4 h5 => unfold adr; rw [dif_neg h, if_neg h2, if_neg h3, if_neg h4, if_pos h5]; exact Nat.zero_le _
  | case8 r h h2 h3 h4 h5 ih =>
    unfold adr; rw [dif_neg h, if_neg h2, if_neg h3, if_neg h4, if_neg h5]
    have := dp_lt h
    show ((adr (dp 1 r)).2.1).length + 1 ≤ _
    omega
theorem tokQ_le (k1 k2 : Int) (X : Bool × List Int × List Int) : (tokQ k1 k2 X).text.size ≤ 4 * X.2.1.length := by
  unfold tokQ
  split
  · exact runesBytes_le _
  · exact Nat.zero_le _
theorem mark_le (a : Int) : (markT a).text.size ≤ 4 := by
  have := enc_le a
  unfold markT
  repeat' split
  all_goals first | exact Nat.zero_le _ | exact this
theorem ident_le (r : List Int) : (identT r).1.text.size ≤ 4 * r.length := by
  have h1 := runesBytes_le (nm r).1
  have h2 := nm_le r
  have h3 := (nm_suf' r).length_le
  unfold identT
  split
  · show (runesBytes (nm r).1).size ≤ _; omega
  split
  · unfold urlT
    split
    · show (runesBytes (nm r).1).size ≤ _; omega
    · have h4 := tokQ_le 7 8 (adr (wh (dp 1 (nm r).2)))
      have h5 := adr_le (wh (dp 1 (nm r).2))
      have h6 := ((wh_suf (dp 1 (nm r).2)).trans (dp_suf 1 (nm r).2)).length_le
      show (tokQ 7 8 (adr (wh (dp 1 (nm r).2)))).text.size ≤ _
      omega
  · show (runesBytes (nm r).1).size ≤ _; omega
theorem number_le (r : List Int) : (numberT r).1.text.size ≤ 4 * r.length := by
  have h0 : (num4 r).length ≤ r.length := by
    have e4 : num4 r <:+ num3 r := by
      unfold num4
      split
      · exact (cnt_suf _).trans (dp_suf _ _)
      · exact List.suffix_refl _
    have e3 : num3 r <:+ num2 r := by
      unfold num3
      split
      · exact (cnt_suf _).trans (dp_suf _ _)
      · exact List.suffix_refl _
    have e2 : num2 r <:+ r := by
      unfold num2 num1
      split
      · exact (cnt_suf _).trans (dp_suf _ _)
      · exact cnt_suf _
    exact ((e4.trans e3).trans e2).length_le
  have h1 := runesBytes_le (nm (num4 r)).1
  have h2 := nm_le (num4 r)
  unfold numberT
  split
  · show (runesBytes (nm (num4 r)).1).size ≤ _; omega
  split
  · exact Nat.zero_le _
  · exact Nat.zero_le _
theorem tokT_le {r : List Int} (hl : 1 ≤ r.length) : (tokT r).1.text.size ≤ 4 * r.length := by
  have hm := mark_le (ah r 0)
  have hd := (dp_suf 1 r).length_le
  unfold tokT
  split
  · exact Nat.zero_le _
  split
  · have h1 := tokQ_le 5 6 (qt (ah r 0) (dp 1 r))
    have h2 := qt_le (ah r 0) (dp 1 r)
    show (tokQ 5 6 (qt (ah r 0) (dp 1 r))).text.size ≤ _
    omega
  split
  · unfold hashT
    have h1 := runesBytes_le (nm (dp 1 r)).1
    have h2 := nm_le (dp 1 r)
    split
    · show (runesBytes (nm (dp 1 r)).1).size ≤ _; omega
    · show (markT (ah r 0)).text.size ≤ _; omega
  split
  · unfold atT
    have h1 := runesBytes_le (nm (dp 1 r)).1
    have h2 := nm_le (dp 1 r)
    split
    · show (runesBytes (nm (dp 1 r)).1).size ≤ _; omega
    · show (markT (ah r 0)).text.size ≤ _; omega
  split
  · exact number_le r
  split
  · exact Nat.zero_le _
  split
  · exact Nat.zero_le _
  split
  · exact ident_le r
  · show (markT (ah r 0)).text.size ≤ _; omega
theorem toks_text_le : ∀ (m : Nat) (r : List Int), r.length ≤ m → ∀ t ∈ toks r, t.text.size ≤ 4 * m
  | 0, r, h, t, ht => by
    obtain rfl : r = [] := List.eq_nil_of_length_eq_zero (by omega)
    rw [toks_nil] at ht
    simp at ht
  | m + 1, r, h, t, ht => by
    rw [toks_eq] at ht
    unfold toksC at ht
    split at ht
    · simp at ht
    · rename_i e
      have hne := ne_len e
      have hcm := cm_len r
      have hlt := tokT_lt hne
      rcases List.mem_cons.1 ht with rfl | ht
      · have := tokT_le hne
        omega
      · have := toks_text_le m (tokT (cm r)).2 (by omega) t ht
        omega
theorem nds_text5 (s : ByteArray) (hs : s.size ≤ 100000000) : ∀ n ∈ ndsS (toks (readS s)), n.tok.text.size ≤ 500000000 := fun n hn => by
  have h1 := nds_tok _ _ (Nat.le_refl _) n hn
  have h2 := readS_length s
  have := toks_text_le _ _ (Nat.le_refl _) _ h1
  omega
theorem nds_sz5 (s : ByteArray) (hs : s.size ≤ 100000000) : szL (ndsS (toks (readS s))) ≤ 100000000 := by
  have h1 := szL_nds _ (toks (readS s)) (Nat.le_refl _)
  have h2 := toks_len_le _ (readS s) (Nat.le_refl _)
  have h3 := readS_length s
  omega
end Go.Proofs.YtlajkfnlkkgneaaDoor
