import Derived.Test.YtclicjiakkcfcaaGreatDoorTkO2
namespace Go.Proofs.YtclicjiakkcfcaaGreatDoor
open Go.RowKit
theorem suf_lt {a b r : List Int} (h : a <:+ b) (hb : b.length < r.length) : a.length < r.length := Nat.lt_of_le_of_lt h.length_le hb
theorem dp1_lt {r : List Int} (h : 1 ≤ r.length) : (dp 1 r).length < r.length := by rw [dp_len]; omega
theorem nm_suf' (r : List Int) : (nm r).2 <:+ r := nm_suf _ _
theorem nm_lt {r : List Int} (h : nbg r 0 = true) : (nm r).2.length < r.length := by
 by_cases c : sName (ah r 0) = true
 · rw [nm_name c]
   exact suf_lt (nm_suf' _) (dp1_lt (len_of_name c))
 · have c' : sName (ah r 0) = false := by simpa using c
   by_cases c2 : esc r 0 = true
   · rw [nm_esc c' c2]
     exact suf_lt ((nm_suf' _).trans (escT_suf _)) (dp1_lt (len_of_esc c2))
   · exfalso
     have c2' : esc r 0 = false := by simpa using c2
     unfold nbg at h
     rw [c2'] at h
     unfold sName at c'
     split at h
     · rename_i h45
       simp [h45] at c'
     · simp at c'
       simp [c'.1.1] at h
theorem num4_lt {r : List Int} (h : numB r = true) : (num4 r).length < r.length := by
 have e4 : num4 r <:+ num3 r := by
  unfold num4
  split
  · exact (cnt_suf _).trans (dp_suf _ _)
  · exact List.suffix_refl _
 refine suf_lt e4 ?_
 unfold numB at h
 by_cases hs : sgn r 0 = true
 · have hl : 1 ≤ r.length := len_of_ah (n := 0) (by intro e; simp [sgn, e] at hs)
   have e1 : num1 r = dp 1 r := by unfold num1; rw [if_pos hs]
   have e3 : num3 r <:+ num1 r := by
    unfold num3
    split
    · exact (cnt_suf _).trans ((dp_suf _ _).trans (cnt_suf _))
    · exact cnt_suf _
   exact suf_lt e3 (by rw [e1]; exact dp1_lt hl)
 · rw [if_neg hs] at h
   have e1 : num1 r = r := by unfold num1; rw [if_neg hs]
   have e2 : num2 r = cnt r := by unfold num2; rw [e1]
   by_cases hd : sDigit (ah r 0) = true
   · have e3 : num3 r <:+ num2 r := by
      unfold num3
      split
      · exact (cnt_suf _).trans (dp_suf _ _)
      · exact List.suffix_refl _
     refine suf_lt e3 ?_
     rw [e2, cnt_yes hd]
     exact suf_lt (cnt_suf _) (dp1_lt (len_of_digit hd))
   · have hd' : sDigit (ah r 0) = false := by simpa using hd
     have hf : frac r 0 = true := by simpa [hd'] using h
     have e3 : num3 r = cnt (dp 1 r) := by unfold num3; rw [e2, cnt_no hd', if_pos hf]
     rw [e3]
     exact suf_lt (cnt_suf _) (dp1_lt (frac_len hf))
theorem urlT_suf (n : ByteArray) (r : List Int) : (urlT n r).2 <:+ r := by
 unfold urlT
 split
 · exact (dp_suf _ _).trans (dp_suf _ _)
 · exact (adr_suf _).trans ((wh_suf _).trans (dp_suf _ _))
theorem tokT_lt {r : List Int} (hl : 1 ≤ r.length) : (tokT r).2.length < r.length := by
 unfold tokT
 split
 · rename_i h
   show (wh r).length < _
   rw [wh_white h]
   exact suf_lt (wh_suf _) (dp1_lt hl)
 split
 · exact suf_lt (qt_suf _ _) (dp1_lt hl)
 split
 · unfold hashT
   split
   · exact suf_lt (nm_suf' _) (dp1_lt hl)
   · exact dp1_lt hl
 split
 · unfold atT
   split
   · exact suf_lt (nm_suf' _) (dp1_lt hl)
   · exact dp1_lt hl
 split
 · rename_i h
   unfold numberT
   split
   · exact suf_lt (nm_suf' _) (num4_lt h)
   split
   · exact suf_lt (dp_suf _ _) (num4_lt h)
   · exact num4_lt h
 split
 · show (dp 3 r).length < _
   rw [dp_len]; omega
 split
 · show (dp 4 r).length < _
   rw [dp_len]; omega
 split
 · rename_i h
   unfold identT
   split
   · exact nm_lt h
   split
   · exact suf_lt (urlT_suf _ _) (nm_lt h)
   · exact suf_lt (dp_suf _ _) (nm_lt h)
 · exact dp1_lt hl
theorem ne_len {r : List Int} (h : ¬ r.isEmpty = true) : 1 ≤ r.length := List.length_pos_iff.2 (by simpa using h)
def toks (r : List Int) : List Tok :=
 if _h : (cm r).isEmpty then [] else (tokT (cm r)).1 :: toks (tokT (cm r)).2
termination_by r.length
decreasing_by
  exact Nat.lt_of_lt_of_le (tokT_lt (ne_len ‹_›)) (cm_len r)
def toksC (c : List Int) : List Tok := if c.isEmpty then [] else (tokT c).1 :: toks (tokT c).2
theorem toks_eq (r : List Int) : toks r = toksC (cm r) := by
 rw [toks]
 unfold toksC
 by_cases h : (cm r).isEmpty = true
 · rw [dif_pos h, if_pos h]
 · rw [dif_neg h, if_neg h]
end Go.Proofs.YtclicjiakkcfcaaGreatDoor
