
import Derived.Test.YtjjkifhegfpceaaDoorTkF
namespace Go.Proofs.YtjjkifhegfpceaaDoor
open Go.RowKit

theorem dp_lt {r : List Int} (h : ¬ r.isEmpty = true) : (dp 1 r).length < r.length := by
  rw [dp_len]
  have : r ≠ [] := by simpa using h
  have := List.length_pos_iff.2 this
  omega
theorem dp2_lt {r : List Int} (h : ¬ r.isEmpty = true) : (dp 2 r).length < r.length := by
  rw [dp_len]
  have : r ≠ [] := by simpa using h
  have := List.length_pos_iff.2 this
  omega
theorem escT_lt {r : List Int} (h : ¬ r.isEmpty = true) : (escT (dp 1 r)).2.length < r.length := Nat.lt_of_le_of_lt (escT_len _) (dp_lt h)

/-- A string behind its quote q: is it whole, its signs, and what is behind. -/
def qt (q : Int) (r : List Int) : Bool × List Int × List Int :=
  if _h : r.isEmpty then (true, [], []) else if ah r 0 = q then (true, [], dp 1 r) else if ah r 0 = 10 then (false, [], r) else
  if ah r 0 ≠ 92 then ((qt q (dp 1 r)).1, ah r 0 :: (qt q (dp 1 r)).2.1, (qt q (dp 1 r)).2.2) else
  if r.length ≤ 1 then (true, [], []) else
  if esc r 0 then ((qt q (escT (dp 1 r)).2).1, (escT (dp 1 r)).1 :: (qt q (escT (dp 1 r)).2).2.1, (qt q (escT (dp 1 r)).2).2.2) else qt q (dp 2 r)
termination_by r.length
decreasing_by
  all_goals first | exact dp_lt ‹_› | exact escT_lt ‹_› | exact dp2_lt ‹_›

/-- What is behind a URL that may not be. -/
def badT (r : List Int) : List Int :=
  if _h : r.isEmpty then [] else if ah r 0 = 41 then dp 1 r else if esc r 0 then badT (escT (dp 1 r)).2 else badT (dp 1 r)
termination_by r.length
decreasing_by
  all_goals first | exact dp_lt ‹_› | exact escT_lt ‹_›

def spoil (r : Int) : Bool := decide (r = 34 ∨ r = 39 ∨ r = 40 ∨ r = 92 ∨ r = 11 ∨ r = 127 ∨ (0 ≤ r ∧ r ≤ 8) ∨ (14 ≤ r ∧ r ≤ 31))

/-- A URL from its first sign on: may it be, its signs, and what is behind. -/
def adr (r : List Int) : Bool × List Int × List Int :=
  if _h : r.isEmpty then (true, [], []) else if ah r 0 = 41 then (true, [], dp 1 r) else
  if esc r 0 then ((adr (escT (dp 1 r)).2).1, (escT (dp 1 r)).1 :: (adr (escT (dp 1 r)).2).2.1, (adr (escT (dp 1 r)).2).2.2) else
  if sWhite (ah r 0) then (if (wh r).isEmpty then (true, [], []) else if ah (wh r) 0 = 41 then (true, [], dp 1 (wh r)) else (false, [], badT (wh r))) else
  if spoil (ah r 0) then (false, [], badT r) else ((adr (dp 1 r)).1, ah r 0 :: (adr (dp 1 r)).2.1, (adr (dp 1 r)).2.2)
termination_by r.length
decreasing_by
  all_goals first | exact dp_lt ‹_› | exact escT_lt ‹_›

def tokQ (k1 k2 : Int) (X : Bool × List Int × List Int) : Tok := if X.1 then { kind := k1, text := runesBytes X.2.1 } else { kind := k2 }
def urlT (name : ByteArray) (r : List Int) : Tok × List Int :=
  if ah (wh (dp 1 r)) 0 = 34 ∨ ah (wh (dp 1 r)) 0 = 39 then ({ kind := 2, text := name }, dp ((dp 1 r).length - (wh (dp 1 r)).length - 1) (dp 1 r)) else
  (tokQ 7 8 (adr (wh (dp 1 r))), (adr (wh (dp 1 r))).2.2)
def identT (r : List Int) : Tok × List Int :=
  if ah (nm r).2 0 ≠ 40 then ({ kind := 1, text := runesBytes (nm r).1 }, (nm r).2) else
  if ((lowS (runesBytes (nm r).1)).toList == [117, 114, 108]) = true then urlT (runesBytes (nm r).1) (nm r).2 else ({ kind := 2, text := runesBytes (nm r).1 }, dp 1 (nm r).2)
def quotedT (r : List Int) : Tok × List Int := (tokQ 5 6 (qt (ah r 0) (dp 1 r)), (qt (ah r 0) (dp 1 r)).2.2)
def hashT (r : List Int) : Tok × List Int :=
  if sName (ah r 1) || esc r 1 then ({ kind := 4, text := runesBytes (nm (dp 1 r)).1, id := nbg (dp 1 r) 0 }, (nm (dp 1 r)).2) else (markT (ah r 0), dp 1 r)
def atT (r : List Int) : Tok × List Int :=
  if nbg r 1 then ({ kind := 3, text := runesBytes (nm (dp 1 r)).1 }, (nm (dp 1 r)).2) else (markT (ah r 0), dp 1 r)

/-- A number's text: digits as bytes. -/
def digV (l : List Int) : Int := l.foldl (fun n x => min (n * 10 + (x - 48)) 2147483648) 0
/-- The digits of a text's bytes. -/
def digR (l : List Int) : Int := if l.all sDigit then digV l else 0
def digOk (l : List Int) : Bool := l.all sDigit && !l.isEmpty
def intV (l : List Int) : Int :=
  if l.head? = some 45 then (if digOk l.tail then - digR l.tail else 0) else
  if l.head? = some 43 then (if digOk l.tail then min (digR l.tail) 2147483647 else 0) else
  if digOk l then min (digR l) 2147483647 else 0

def num1 (r : List Int) : List Int := if sgn r 0 then dp 1 r else r
def num2 (r : List Int) : List Int := cnt (num1 r)
def num3 (r : List Int) : List Int := if frac (num2 r) 0 then cnt (dp 1 (num2 r)) else num2 r
def num4 (r : List Int) : List Int := if 0 < expo (num3 r) then cnt (dp (expo (num3 r)) (num3 r)) else num3 r
def numW (r : List Int) : Bool := !frac (num2 r) 0 && decide (expo (num3 r) = 0)
def plainT (r : List Int) : Tok := { kind := 0, int := if numW r then intV (nums (runesBytes (r.take (r.length - (num2 r).length)))) else 0, whole := numW r, sign := sgn r 0 }
def numberT (r : List Int) : Tok × List Int :=
  if nbg (num4 r) 0 then ({ plainT r with kind := 12, text := runesBytes (nm (num4 r)).1 }, (nm (num4 r)).2) else
  if pre [37] (num4 r) then ({ plainT r with kind := 11 }, dp 1 (num4 r)) else ({ plainT r with kind := 10 }, num4 r)

/-- The token that begins here, and what is behind it. -/
def tokT (r : List Int) : Tok × List Int :=
  if sWhite (ah r 0) then ({ kind := 13 }, wh r) else if ah r 0 = 34 ∨ ah r 0 = 39 then quotedT r else if ah r 0 = 35 then hashT r else if ah r 0 = 64 then atT r else
  if numB r then numberT r else if pre [45, 45, 62] r then ({ kind := 15 }, dp 3 r) else if pre [60, 33, 45, 45] r then ({ kind := 14 }, dp 4 r) else
  if nbg r 0 then identT r else (markT (ah r 0), dp 1 r)

theorem qt_suf (q : Int) (r : List Int) : (qt q r).2.2 <:+ r := by
  induction r using qt.induct q with
  | case1 r h => unfold qt; rw [dif_pos h]; exact List.nil_suffix
  | case2 r h h2 => unfold qt; rw [dif_neg h, if_pos h2]; exact dp_suf _ _
  | case3 r h h2 h3 => unfold qt; rw [dif_neg h, if_neg h2, if_pos h3]; exact List.suffix_refl _
  | case4 r h h2 h3 h4 ih => unfold qt; rw [dif_neg h, if_neg h2, if_neg h3, if_pos h4]; exact ih.trans (dp_suf _ _)
  | case5 r h h2 h3 h4 h5 => unfold qt; rw [dif_neg h, if_neg h2, if_neg h3, if_neg h4, if_pos h5]; exact List.nil_suffix
  | case6 r h h2 h3 h4 h5 h6 ih => unfold qt; rw [dif_neg h, if_neg h2, if_neg h3, if_neg h4, if_neg h5, if_pos h6]; exact ih.trans ((escT_suf _).trans (dp_suf _ _))
  | case7 r h h2 h3 h4 h5 h6 ih => unfold qt; rw [dif_neg h, if_neg h2, if_neg h3, if_neg h4, if_neg h5, if_neg h6]; exact ih.trans (dp_suf _ _)
theorem badT_suf (r : List Int) : badT r <:+ r := by
  induction r using badT.induct with
  | case1 r h => unfold badT; rw [dif_pos h]; exact List.nil_suffix
  | case2 r h h2 => unfold badT; rw [dif_neg h, if_pos h2]; exact dp_suf _ _
  | case3 r h h2 h3 ih => unfold badT; rw [dif_neg h, if_neg h2, if_pos h3]; exact ih.trans ((escT_suf _).trans (dp_suf _ _))
  | case4 r h h2 h3 ih => unfold badT; rw [dif_neg h, if_neg h2, if_neg h3]; exact ih.trans (dp_suf _ _)
theorem adr_suf (r : List Int) : (adr r).2.2 <:+ r := by
  induction r using adr.induct with
  | case1 r h => unfold adr; rw [dif_pos h]; exact List.nil_suffix
  | case2 r h h2 => unfold adr; rw [dif_neg h, if_pos h2]; exact dp_suf _ _
  | case3 r h h2 h3 ih => unfold adr; rw [dif_neg h, if_neg h2, if_pos h3]; exact ih.trans ((escT_suf _).trans (dp_suf _ _))
  | case4 r h h2 h3 h4 h5 => unfold adr; rw [dif_neg h, if_neg h2, if_neg h3, if_pos h4, if_pos h5]; exact List.nil_suffix
  | case5 r h h2 h3 h4 h5 h6 => unfold adr; rw [dif_neg h, if_neg h2, if_neg h3, if_pos h4, if_neg h5, if_pos h6]; exact (dp_suf _ _).trans (wh_suf _)
  | case6 r h h2 h3 h4 h5 h6 => unfold adr; rw [dif_neg h, if_neg h2, if_neg h3, if_pos h4, if_neg h5, if_neg h6]; exact (badT_suf _).trans (wh_suf _)
  | case7 r h h2 h3 h4 h5 => unfold adr; rw [dif_neg h, if_neg h2, if_neg h3, if_neg h4, if_pos h5]; exact badT_suf _
  | case8 r h h2 h3 h4 h5 ih => unfold adr; rw [dif_neg h, if_neg h2, if_neg h3, if_neg h4, if_neg h5]; exact ih.trans (dp_suf _ _)
end Go.Proofs.YtjjkifhegfpceaaDoor
