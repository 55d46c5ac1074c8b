import Derived.Test.YtclicjiakkcfcaaGreatDoorNsP
import Derived.Test.YtclicjiakkcfcaaGreatDoorTkR
import Derived.Test.YtclicjiakkcfcaaGreatDoorTkU
import Derived.Shelf.Abstract
namespace Go.Proofs.YtclicjiakkcfcaaGreatDoor
open Go.RowKit Go.Shelf
theorem enc_leZ (x : Int) : (Utf8.encode x).size ≤ 4 := by
 have := encode_size_le x
 omega
theorem runesBytes_leZ (l : List Int) : (runesBytes l).size ≤ 4 * l.length := by
 have h1 : (runesBytes l).size = (l.flatMap encB).length := by rw [← runesBytes_list, Array.length_toList]; rfl
 rw [h1]
 clear h1
 induction l with
 | nil => simp
 | cons a l ih =>
  have h2 : (encB a).length = (Utf8.encode a).size := by unfold encB; rw [Array.length_toList]; rfl
  have := enc_leZ a
  rw [List.flatMap_cons, List.length_append, List.length_cons]
  omega
theorem nm_leZ (r : List Int) : (nm r).1.length ≤ r.length := nm_length _ _
theorem qt_leZ (q : Int) (r : List Int) : (qt q r).2.1.length ≤ r.length := by
 induction r using qt.induct q with
 | case1 r h => unfold qt; rw [dif_pos h]; exact Nat.zero_le _
 | case2 r h h2 => unfold qt; rw [dif_neg h, if_pos h2]; exact Nat.zero_le _
 | case3 r h h2 h3 => unfold qt; rw [dif_neg h, if_neg h2, if_pos h3]; exact Nat.zero_le _
 | case4 r h h2 h3 h4 ih =>
  unfold qt; rw [dif_neg h, if_neg h2, if_neg h3, if_pos h4]
  have := dp_lt h
  show ((qt q (dp 1 r)).2.1).length + 1 ≤ _
  omega
 | case5 r h h2 h3 h4 h5 => unfold qt; rw [dif_neg h, if_neg h2, if_neg h3, if_neg h4, if_pos h5]; exact Nat.zero_le _
 | case6 r h h2 h3 h4 h5 h6 ih =>
  unfold qt; rw [dif_neg h, if_neg h2, if_neg h3, if_neg h4, if_neg h5, if_pos h6]
  have := escT_lt h
  show ((qt q (escT (dp 1 r)).2).2.1).length + 1 ≤ _
  omega
 | case7 r h h2 h3 h4 h5 h6 ih =>
  unfold qt; rw [dif_neg h, if_neg h2, if_neg h3, if_neg h4, if_neg h5, if_neg h6]
  have := dp_len 2 r
  omega
theorem adr_leZ (r : List Int) : (adr r).2.1.length ≤ r.length := by
 induction r using adr.induct with
 | case1 r h => unfold adr; rw [dif_pos h]; exact Nat.zero_le _
 | case2 r h h2 => unfold adr; rw [dif_neg h, if_pos h2]; exact Nat.zero_le _
 | case3 r h h2 h3 ih =>
  unfold adr; rw [dif_neg h, if_neg h2, if_pos h3]
  have := escT_lt h
  show ((adr (escT (dp 1 r)).2).2.1).length + 1 ≤ _
  omega
 | case4 r h h2 h3 h4 h5 => unfold adr; rw [dif_neg h, if_neg h2, if_neg h3, if_pos h4, if_pos h5]; exact Nat.zero_le _
 | case5 r h h2 h3 h4 h5 h6 => unfold adr; rw [dif_neg h, if_neg h2, if_neg h3, if_pos h4, if_neg h5, if_pos h6]; exact Nat.zero_le _
 | case6 r h h2 h3 h4 h5 h6 => unfold adr; rw [dif_neg h, if_neg h2, if_neg h3, if_pos h4, if_neg h5, if_neg h6]; exact Nat.zero_le _
 | case7 r h h2 h3 h4 h5 => unfold adr; rw [dif_neg h, if_neg h2, if_neg h3, if_neg h4, if_pos h5]; exact Nat.zero_le _
 | case8 r h h2 h3 h4 h5 ih =>
  unfold adr; rw [dif_neg h, if_neg h2, if_neg h3, if_neg h4, if_neg h5]
  have := dp_lt h
  show ((adr (dp 1 r)).2.1).length + 1 ≤ _
  omega
theorem tokQ_leZ (k1 k2 : Int) (X : Bool × List Int × List Int) : (tokQ k1 k2 X).text.size ≤ 4 * X.2.1.length := by
 unfold tokQ
 split
 · exact runesBytes_leZ _
 · exact Nat.zero_le _
theorem mark_leZ (a : Int) : (markT a).text.size ≤ 4 := by
 have := enc_leZ a
 unfold markT
 repeat' split
 all_goals first | exact Nat.zero_le _ | exact this
theorem ident_leZ (r : List Int) : (identT r).1.text.size ≤ 4 * r.length := by
 have h1 := runesBytes_leZ (nm r).1
 have h2 := nm_leZ r
 have h3 := (nm_suf' r).length_le
 unfold identT
 split
 · show (runesBytes (nm r).1).size ≤ _; omega
 split
 · unfold urlT
   split
   · show (runesBytes (nm r).1).size ≤ _; omega
   · have h4 := tokQ_leZ 7 8 (adr (wh (dp 1 (nm r).2)))
     have h5 := adr_leZ (wh (dp 1 (nm r).2))
     have h6 := ((wh_suf (dp 1 (nm r).2)).trans (dp_suf 1 (nm r).2)).length_le
     show (tokQ 7 8 (adr (wh (dp 1 (nm r).2)))).text.size ≤ _
     omega
 · show (runesBytes (nm r).1).size ≤ _; omega
theorem number_leZ (r : List Int) : (numberT r).1.text.size ≤ 4 * r.length := by
 have h0 : (num4 r).length ≤ r.length := by
  have e4 : num4 r <:+ num3 r := by
   unfold num4
   split
   · exact (cnt_suf _).trans (dp_suf _ _)
   · exact List.suffix_refl _
  have e3 : num3 r <:+ num2 r := by
   unfold num3
   split
   · exact (cnt_suf _).trans (dp_suf _ _)
   · exact List.suffix_refl _
  have e2 : num2 r <:+ r := by
   unfold num2 num1
   split
   · exact (cnt_suf _).trans (dp_suf _ _)
   · exact cnt_suf _
  exact ((e4.trans e3).trans e2).length_le
 have h1 := runesBytes_leZ (nm (num4 r)).1
 have h2 := nm_leZ (num4 r)
 unfold numberT
 split
 · show (runesBytes (nm (num4 r)).1).size ≤ _; omega
 split
 · exact Nat.zero_le _
 · exact Nat.zero_le _
theorem tokT_leZ {r : List Int} (hl : 1 ≤ r.length) : (tokT r).1.text.size ≤ 4 * r.length := by
 have hm := mark_leZ (ah r 0)
 have hd := (dp_suf 1 r).length_le
 unfold tokT
 split
 · exact Nat.zero_le _
 split
 · have h1 := tokQ_leZ 5 6 (qt (ah r 0) (dp 1 r))
   have h2 := qt_leZ (ah r 0) (dp 1 r)
   show (tokQ 5 6 (qt (ah r 0) (dp 1 r))).text.size ≤ _
   omega
 split
 · unfold hashT
   have h1 := runesBytes_leZ (nm (dp 1 r)).1
   have h2 := nm_leZ (dp 1 r)
   split
   · show (runesBytes (nm (dp 1 r)).1).size ≤ _; omega
   · show (markT (ah r 0)).text.size ≤ _; omega
 split
 · unfold atT
   have h1 := runesBytes_leZ (nm (dp 1 r)).1
   have h2 := nm_leZ (dp 1 r)
   split
   · show (runesBytes (nm (dp 1 r)).1).size ≤ _; omega
   · show (markT (ah r 0)).text.size ≤ _; omega
 split
 · exact number_leZ r
 split
 · exact Nat.zero_le _
 split
 · exact Nat.zero_le _
 split
 · exact ident_leZ r
 · show (markT (ah r 0)).text.size ≤ _; omega
theorem toks_text_leZ : ∀ (m : Nat) (r : List Int), r.length ≤ m → ∀ t ∈ toks r, t.text.size ≤ 4 * m
  | 0, r, h, t, ht => by
   obtain rfl : r = [] := List.eq_nil_of_length_eq_zero (by omega)
   rw [toks, dif_pos (show (cm []).isEmpty = true by decide +kernel)] at ht
   simp at ht
  | m + 1, r, h, t, ht => by
   rw [toks_eq] at ht
   unfold toksC at ht
   split at ht
   · simp at ht
   · rename_i e
     have hne := ne_len e
     have hcm := cm_len r
     have hlt := tokT_lt hne
     rcases List.mem_cons.1 ht with rfl | ht
     · have := tokT_leZ hne
       omega
     · have := toks_text_leZ m (tokT (cm r)).2 (by omega) t ht
       omega
theorem toks_len_leZ : ∀ (n : Nat) (r : List Int), r.length ≤ n → (toks r).length ≤ n
  | 0, r, h => by
   obtain rfl : r = [] := List.eq_nil_of_length_eq_zero (by omega)
   rw [toks_eq]; decide
  | n + 1, r, h => by
   rw [toks_eq]
   unfold toksC
   split
   · simp
   · rename_i e
     have hlt := tokT_lt (ne_len e)
     have hcm := cm_len r
     have := toks_len_leZ n (tokT (cm r)).2 (by omega)
     simp; omega
theorem nds_sz5Z (s : ByteArray) (hs : s.size ≤ 100000000) : szL (ndsS (toks (readS s))) ≤ 100000000 := by
 have h1 := szL_nds _ (toks (readS s)) (Nat.le_refl _)
 have h2 := toks_len_leZ _ (readS s) (Nat.le_refl _)
 have h3 := readS_length s
 omega
mutual
def allN (p : Tok → Bool) : Nd → Bool
  | .mk t k => p t && allL p k
def allL (p : Tok → Bool) : List Nd → Bool
  | [] => true
  | n :: l => allN p n && allL p l
end
theorem allL_app (p : Tok → Bool) : ∀ a b : List Nd, allL p (a ++ b) = (allL p a && allL p b)
  | [], b => by rw [List.nil_append, allL, Bool.true_and]
  | n :: a, b => by rw [List.cons_append, allL, allL, allL_app p a b, Bool.and_assoc]
def allK (p : Tok → Bool) : Stk → Prop
  | [] => True
  | (o, k) :: s => p o = true ∧ allL p k = true ∧ allK p s
theorem allK_add {p : Tok → Bool} {s : Stk} {n : Nd} (h : allK p s) (hn : allN p n = true) : allK p (addS s n) := by
 cases s with
 | nil => exact h
 | cons q s =>
  obtain ⟨o, k⟩ := q
  by_cases hl : s.length + 1 < 32
  · rw [addS_room hl]
    exact ⟨h.1, by rw [allL_app, h.2.1, allL, allL, hn]; rfl, h.2.2⟩
  · rw [addS_full hl]
    exact h
theorem allK_shut {p : Tok → Bool} : ∀ (m : Nat) (s : Stk), s.length = m → 0 < m → allK p s → allN p (shutS s) = true
  | 0, _, _, h, _ => absurd h (by decide)
  | 1, s, hs, _, h => by
   obtain ⟨q, rfl⟩ := List.length_eq_one_iff.1 hs
   obtain ⟨o, k⟩ := q
   unfold shutS
   rw [allN, h.1, h.2.1]
   rfl
  | m + 2, s, hs, _, h => by
   cases s with
   | nil => simp at hs
   | cons q s =>
    cases s with
    | nil => simp at hs
    | cons r s =>
     obtain ⟨o, k⟩ := q
     obtain ⟨o2, k2⟩ := r
     have e : shutS ((o, k) :: (o2, k2) :: s) = shutS (addS ((o2, k2) :: s) (.mk o k)) := by
      conv => lhs; unfold shutS
      unfold addS
      rfl
     rw [e]
     exact allK_shut (m + 1) _ (by rw [addS_len]; simpa using hs) (by omega) (allK_add h.2.2 (by rw [allN, h.1, h.2.1]; rfl))
theorem one_all {p : Tok → Bool} : ∀ (ts : List Tok) (s : Stk), (0 < s.length ∨ 0 < ts.length) → (∀ t ∈ ts, p t = true) → allK p s → allN p (oneS s ts).1 = true
  | [], s, hp, _, h => by
   rw [oneS_nil]
   exact allK_shut s.length s rfl (by rcases hp with hp | hp; exact hp; simp at hp) h
  | t :: ts, s, hp, ht, h => by
   have ht0 := ht t (List.mem_cons_self ..)
   have hts : ∀ x ∈ ts, p x = true := fun x hx => ht x (List.mem_cons_of_mem _ hx)
   by_cases hc : closesS s t = true
   · cases s with
     | nil => exact absurd hc (by simp [closesS])
     | cons q s =>
      obtain ⟨o, k⟩ := q
      rw [oneS_shuts hc]
      split
      · rw [allN, h.1, h.2.1]; rfl
      · rename_i he
        have he : s ≠ [] := by simpa using he
        exact one_all ts _ (Or.inl (by rw [addS_len]; exact List.length_pos_iff.2 he)) hts (allK_add h.2.2 (by rw [allN, h.1, h.2.1]; rfl))
   · have hc : closesS s t = false := by simpa using hc
     by_cases hb : (cloB t).toList.isEmpty = true
     · rw [oneS_leaf hc hb]
       split
       · rw [allN, ht0]; rfl
       · rename_i he
         have he : s ≠ [] := by simpa using he
         exact one_all ts _ (Or.inl (by rw [addS_len]; exact List.length_pos_iff.2 he)) hts (allK_add h (by rw [allN, ht0]; rfl))
     · have hb : (cloB t).toList.isEmpty = false := by simpa using hb
       rw [oneS_opens hc hb]
       exact one_all ts _ (Or.inl (by simp)) hts ⟨ht0, rfl, h⟩
theorem nds_all {p : Tok → Bool} : ∀ (m : Nat) (ts : List Tok), ts.length ≤ m → (∀ t ∈ ts, p t = true) → allL p (ndsS ts) = true
  | _, [], _, _ => by
   have e : ndsS [] = [] := by unfold ndsS; rfl
   rw [e]
   rfl
  | 0, t :: ts, h, _ => by simp at h
  | m + 1, t :: ts, h, hp => by
   rw [ndsS_cons, allL, one_all _ [] (Or.inr (by simp)) hp trivial, Bool.true_and]
   have hlt := oneS_lt t ts []
   exact nds_all m _ (by simp at hlt h; omega) (fun x hx => hp x ((one_rest (t :: ts) []).subset hx))
theorem nds_sized (s : ByteArray) (hs : s.size ≤ 100000000) : allL (fun t => decide (t.text.size ≤ 500000000)) (ndsS (toks (readS s))) = true :=
 nds_all _ _ (Nat.le_refl _) fun t ht => by
  have h2 := readS_length s
  have := toks_text_leZ _ _ (Nat.le_refl _) _ ht
  exact decide_eq_true (by omega)
end Go.Proofs.YtclicjiakkcfcaaGreatDoor
