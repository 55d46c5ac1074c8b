import Derived.Test.YtclicjiakkcfcaaGreatDoorTkA
import Derived.Laws.BitsAllLaws
import Derived.Laws.BitsLemmas
namespace Go.Proofs.YtclicjiakkcfcaaGreatDoor
open Go.RowKit
def left (g n : Nat) (w : World) : Nat := n - (intOf ((w.cell? ⟨g, 1, none⟩).getD undef)).toNat
theorem Now.left {T : TypeId} {g : Nat} {v : Value} {xs r : List Int} {w0 w : World} (h : Now T g v xs r w0 w) : left g xs.length w = r.length := by
 have := h.st.rlen
 unfold Go.Proofs.YtclicjiakkcfcaaGreatDoor.left
 rw [h.st.cell1]
 simp [intOf]
 omega
theorem sHex_bd (x : Int) : 0 ≤ sHex x ∧ sHex x < 16 := by
 unfold sHex
 split
 · omega
 · split
   · omega
   · split <;> omega
section
variable {g : Nat} {v : Value} {xs r : List Int} {w0 w : World}
theorem wh_white {r : List Int} (h : sWhite (ah r 0) = true) : wh r = wh (dp 1 r) := by
 cases r with
 | nil => rfl
 | cons a t => simp at h; simp [wh, dp, h]
theorem wh_else {r : List Int} (h : sWhite (ah r 0) = false) : wh r = r := by
 cases r with
 | nil => rfl
 | cons a t => simp at h; simp [wh, h]
theorem wh_suf (r : List Int) : wh r <:+ r := List.dropWhile_suffix _
theorem wh_len (r : List Int) : (wh r).length ≤ r.length := (wh_suf r).length_le
end
def cmEnd : List Int → List Int
  | [] => []
  | a :: t => if pre [42, 47] (a :: t) then dp 2 (a :: t) else cmEnd t
def cmF : Nat → List Int → List Int
  | 0, r => r
  | f + 1, r => if pre [47, 42] r then cmF f (cmEnd (dp 2 r)) else r
def cm (r : List Int) : List Int := cmF r.length r
theorem cmEnd_suf : ∀ r : List Int, cmEnd r <:+ r
  | [] => List.suffix_refl _
  | a :: t => by
   unfold cmEnd
   split
   · exact dp_suf _ _
   · exact (cmEnd_suf t).trans (List.suffix_cons a t)
theorem cmEnd_len (r : List Int) : (cmEnd r).length ≤ r.length := (cmEnd_suf r).length_le
theorem cmEnd_yes {r : List Int} (h : pre [42, 47] r = true) : cmEnd r = dp 2 r := by
 cases r with
 | nil => rfl
 | cons a t => unfold cmEnd; rw [if_pos h]
theorem cmEnd_no {r : List Int} (h : pre [42, 47] r = false) : cmEnd r = cmEnd (dp 1 r) := by
 cases r with
 | nil => rfl
 | cons a t => conv => lhs; unfold cmEnd
               rw [if_neg (by rw [h]; simp)]; rfl
theorem cmF_fuel : ∀ (f g : Nat) (r : List Int), r.length ≤ f → r.length ≤ g → cmF f r = cmF g r
  | 0, 0, _, _, _ => rfl
  | 0, g + 1, r, h, _ => by
   obtain rfl : r = [] := List.eq_nil_of_length_eq_zero (by omega)
   rfl
  | f + 1, 0, r, _, h => by
   obtain rfl : r = [] := List.eq_nil_of_length_eq_zero (by omega)
   rfl
  | f + 1, g + 1, r, h1, h2 => by
   unfold cmF
   by_cases c : pre [47, 42] r = true
   · have := pre_len c
     have hl := cmEnd_len (dp 2 r)
     rw [dp_len] at hl
     simp only [List.length_cons, List.length_nil] at this
     rw [if_pos c, if_pos c, cmF_fuel f g _ (by omega) (by omega)]
   · rw [if_neg c, if_neg c]
theorem cm_yes {r : List Int} (h : pre [47, 42] r = true) : cm r = cm (cmEnd (dp 2 r)) := by
 have := pre_len h
 have hl := cmEnd_len (dp 2 r)
 rw [dp_len] at hl
 simp only [List.length_cons, List.length_nil] at this
 obtain ⟨n, hn⟩ : ∃ n, r.length = n + 1 := ⟨r.length - 1, by omega⟩
 unfold cm
 rw [hn]
 conv => lhs; unfold cmF
 rw [if_pos h]
 exact cmF_fuel _ _ _ (by omega) (Nat.le_refl _)
theorem cm_no {r : List Int} (h : pre [47, 42] r = false) : cm r = r := by
 unfold cm
 cases r with
 | nil => rfl
 | cons a t =>
  show cmF (t.length + 1) _ = _
  unfold cmF
  rw [if_neg (by rw [h]; simp)]
theorem cmF_suf : ∀ (f : Nat) (r : List Int), cmF f r <:+ r
  | 0, r => List.suffix_refl r
  | f + 1, r => by
   unfold cmF
   split
   · exact (cmF_suf f _).trans ((cmEnd_suf _).trans (dp_suf _ _))
   · exact List.suffix_refl r
theorem cm_suf (r : List Int) : cm r <:+ r := cmF_suf _ _
theorem cm_len (r : List Int) : (cm r).length ≤ r.length := (cm_suf r).length_le
section
variable {g : Nat} {v : Value} {xs r : List Int} {w0 w : World}
theorem hx_yes {k c : Nat} {n : Int} {r : List Int} (h : sHexOk (ah r 0) = true) : hx (k + 1) n c r = hx k (n * 16 + sHex (ah r 0)) (c + 1) (dp 1 r) := by
 conv => lhs; unfold hx
 rw [if_pos h]
theorem hx_no {k c : Nat} {n : Int} {r : List Int} (h : sHexOk (ah r 0) = false) : hx k n c r = (n, c, r) := by
 cases k with
 | zero => rfl
 | succ k => unfold hx; rw [if_neg (by rw [h]; simp)]
def HxB (c : Nat) (n : Int) : Prop := 0 ≤ n ∧ n < 16 ^ c
theorem hx_cnt : ∀ (k c : Nat) (n : Int) (r : List Int), c ≤ (hx k n c r).2.1 ∧ (hx k n c r).2.1 ≤ c + k
  | 0, c, n, r => ⟨Nat.le_refl _, Nat.le_refl _⟩
  | k + 1, c, n, r => by
   unfold hx
   split
   · have := hx_cnt k (c + 1) (n * 16 + sHex (ah r 0)) (dp 1 r)
     omega
   · dsimp only
     omega
end
theorem nm_length : ∀ (f : Nat) (r : List Int), (nmF f r).1.length ≤ f
  | 0, r => Nat.le_refl _
  | f + 1, r => by
   unfold nmF
   split
   · simpa using nm_length f (dp 1 r)
   · split
     · simpa using nm_length f (escT (dp 1 r)).2
     · simp
theorem nm_suf : ∀ (f : Nat) (r : List Int), (nmF f r).2 <:+ r
  | 0, r => List.suffix_refl r
  | f + 1, r => by
   unfold nmF
   split
   · exact (nm_suf f _).trans (dp_suf _ _)
   · split
     · exact (nm_suf f _).trans ((escT_suf _).trans (dp_suf _ _))
     · exact List.suffix_refl r
def sgn (r : List Int) (n : Nat) : Bool := decide (ah r n = 43 ∨ ah r n = 45)
def frac (r : List Int) (n : Nat) : Bool := decide (ah r n = 46) && sDigit (ah r (n + 1))
def numB (r : List Int) : Bool := if sgn r 0 then sDigit (ah r 1) || frac r 1 else sDigit (ah r 0) || frac r 0
def expo (r : List Int) : Nat := if ah r 0 = 101 ∨ ah r 0 = 69 then (if sgn r 1 then (if sDigit (ah r 2) then 2 else 0) else (if sDigit (ah r 1) then 1 else 0)) else 0
def cnt (r : List Int) : List Int := r.dropWhile sDigit
theorem cnt_yes {r : List Int} (h : sDigit (ah r 0) = true) : cnt r = cnt (dp 1 r) := by
 cases r with
 | nil => rfl
 | cons a t => simp at h; simp [cnt, dp, h]
theorem cnt_no {r : List Int} (h : sDigit (ah r 0) = false) : cnt r = r := by
 cases r with
 | nil => rfl
 | cons a t => simp at h; simp [cnt, h]
theorem cnt_suf (r : List Int) : cnt r <:+ r := List.dropWhile_suffix _
structure Tok where
  kind : Int
  text : ByteArray := ⟨#[]⟩
  int : Int := 0
  whole : Bool := false
  sign : Bool := false
  id : Bool := false
def Tok.val (t : Tok) : Value := .agg #[.int .i64 t.kind, .string t.text, .int .i64 t.int, .bool t.whole, .bool t.sign, .bool t.id]
def markT (a : Int) : Tok :=
 if a = 44 then { kind := 18 } else if a = 58 then { kind := 16 } else if a = 59 then { kind := 17 } else
 if a = 40 ∨ a = 91 ∨ a = 123 then { kind := 19, text := Utf8.encode a } else if a = 41 ∨ a = 93 ∨ a = 125 then { kind := 20, text := Utf8.encode a } else { kind := 9, text := Utf8.encode a }
abbrev zeroT : Obj := .cells #[.int .i64 0, .string ⟨#[]⟩, .int .i64 0, .bool false, .bool false, .bool false] 94
section
variable {T : TypeId} {g : Nat} {v : Value} {xs r : List Int} {w0 w w1 : World}
theorem Now.res (h : Now T g v xs r (w.alloc zeroT) w1) (hg : g < w.heap.size) :
    w1.cell? ⟨w.heap.size, 0, none⟩ = some (.int .i64 0) ∧ w1.cell? ⟨w.heap.size, 1, none⟩ = some (.string ⟨#[]⟩) ∧ w1.cell? ⟨w.heap.size, 2, none⟩ = some (.int .i64 0) ∧
    w1.cell? ⟨w.heap.size, 3, none⟩ = some (.bool false) ∧ w1.cell? ⟨w.heap.size, 4, none⟩ = some (.bool false) ∧ w1.cell? ⟨w.heap.size, 5, none⟩ = some (.bool false) ∧
    w1.frozen? ⟨w.heap.size, 0, none⟩ = false ∧ w1.frozen? ⟨w.heap.size, 1, none⟩ = false ∧ w1.frozen? ⟨w.heap.size, 2, none⟩ = false ∧
    w1.frozen? ⟨w.heap.size, 3, none⟩ = false ∧ w1.frozen? ⟨w.heap.size, 4, none⟩ = false ∧ w1.frozen? ⟨w.heap.size, 5, none⟩ = false := by
  have hb : w1.heap[w.heap.size]? = some zeroT := by
   rw [h.gw.block w.heap.size (by simp) (by intro e; injection e; omega)]
   exact heap_alloc_self _ _
  refine ⟨?_, ?_, ?_, ?_, ?_, ?_, ?_, ?_, ?_, ?_, ?_, ?_⟩ <;> simp [World.cell?, World.frozen?, hb]
theorem Now.wrote {r' : List Int} (h1 : Now T g v xs r' (w.alloc zeroT) w1) (h : Now T g v xs r w0 w) (a b c d e f : Value) :
    Now T g v xs r' w0 ((((((w1.setCell ⟨w.heap.size, 0, none⟩ a).setCell ⟨w.heap.size, 1, none⟩ b).setCell ⟨w.heap.size, 2, none⟩ c).setCell ⟨w.heap.size, 3, none⟩ d).setCell ⟨w.heap.size, 4, none⟩ e).setCell ⟨w.heap.size, 5, none⟩ f) := by
  have hs := h.gw.size
  exact ((((((h1.since (h.alloc zeroT)).set hs a).set hs b).set hs c).set hs d).set hs e).set hs f
end
theorem dp_lt {r : List Int} (h : ¬ r.isEmpty = true) : (dp 1 r).length < r.length := by
 rw [dp_len]
 have : r ≠ [] := by simpa using h
 have := List.length_pos_iff.2 this
 omega
theorem dp2_lt {r : List Int} (h : ¬ r.isEmpty = true) : (dp 2 r).length < r.length := by
 rw [dp_len]
 have : r ≠ [] := by simpa using h
 have := List.length_pos_iff.2 this
 omega
theorem escT_lt {r : List Int} (h : ¬ r.isEmpty = true) : (escT (dp 1 r)).2.length < r.length := Nat.lt_of_le_of_lt (escT_len _) (dp_lt h)
def qt (q : Int) (r : List Int) : Bool × List Int × List Int :=
 if _h : r.isEmpty then (true, [], []) else if ah r 0 = q then (true, [], dp 1 r) else if ah r 0 = 10 then (false, [], r) else
 if ah r 0 ≠ 92 then ((qt q (dp 1 r)).1, ah r 0 :: (qt q (dp 1 r)).2.1, (qt q (dp 1 r)).2.2) else
 if r.length ≤ 1 then (true, [], []) else
 if esc r 0 then ((qt q (escT (dp 1 r)).2).1, (escT (dp 1 r)).1 :: (qt q (escT (dp 1 r)).2).2.1, (qt q (escT (dp 1 r)).2).2.2) else qt q (dp 2 r)
termination_by r.length
decreasing_by
  all_goals first | exact dp_lt ‹_› | exact escT_lt ‹_› | exact dp2_lt ‹_›
def badT (r : List Int) : List Int :=
 if _h : r.isEmpty then [] else if ah r 0 = 41 then dp 1 r else if esc r 0 then badT (escT (dp 1 r)).2 else badT (dp 1 r)
termination_by r.length
decreasing_by
  all_goals first | exact dp_lt ‹_› | exact escT_lt ‹_›
def spoil (r : Int) : Bool := decide (r = 34 ∨ r = 39 ∨ r = 40 ∨ r = 92 ∨ r = 11 ∨ r = 127 ∨ (0 ≤ r ∧ r ≤ 8) ∨ (14 ≤ r ∧ r ≤ 31))
def adr (r : List Int) : Bool × List Int × List Int :=
 if _h : r.isEmpty then (true, [], []) else if ah r 0 = 41 then (true, [], dp 1 r) else
 if esc r 0 then ((adr (escT (dp 1 r)).2).1, (escT (dp 1 r)).1 :: (adr (escT (dp 1 r)).2).2.1, (adr (escT (dp 1 r)).2).2.2) else
 if sWhite (ah r 0) then (if (wh r).isEmpty then (true, [], []) else if ah (wh r) 0 = 41 then (true, [], dp 1 (wh r)) else (false, [], badT (wh r))) else
 if spoil (ah r 0) then (false, [], badT r) else ((adr (dp 1 r)).1, ah r 0 :: (adr (dp 1 r)).2.1, (adr (dp 1 r)).2.2)
termination_by r.length
decreasing_by
  all_goals first | exact dp_lt ‹_› | exact escT_lt ‹_›
def tokQ (k1 k2 : Int) (X : Bool × List Int × List Int) : Tok := if X.1 then { kind := k1, text := runesBytes X.2.1 } else { kind := k2 }
def urlT (name : ByteArray) (r : List Int) : Tok × List Int :=
 if ah (wh (dp 1 r)) 0 = 34 ∨ ah (wh (dp 1 r)) 0 = 39 then ({ kind := 2, text := name }, dp ((dp 1 r).length - (wh (dp 1 r)).length - 1) (dp 1 r)) else
 (tokQ 7 8 (adr (wh (dp 1 r))), (adr (wh (dp 1 r))).2.2)
def identT (r : List Int) : Tok × List Int :=
 if ah (nm r).2 0 ≠ 40 then ({ kind := 1, text := runesBytes (nm r).1 }, (nm r).2) else
 if ((lowS (runesBytes (nm r).1)).toList == [117, 114, 108]) = true then urlT (runesBytes (nm r).1) (nm r).2 else ({ kind := 2, text := runesBytes (nm r).1 }, dp 1 (nm r).2)
def quotedT (r : List Int) : Tok × List Int := (tokQ 5 6 (qt (ah r 0) (dp 1 r)), (qt (ah r 0) (dp 1 r)).2.2)
def hashT (r : List Int) : Tok × List Int :=
 if sName (ah r 1) || esc r 1 then ({ kind := 4, text := runesBytes (nm (dp 1 r)).1, id := nbg (dp 1 r) 0 }, (nm (dp 1 r)).2) else (markT (ah r 0), dp 1 r)
def atT (r : List Int) : Tok × List Int :=
 if nbg r 1 then ({ kind := 3, text := runesBytes (nm (dp 1 r)).1 }, (nm (dp 1 r)).2) else (markT (ah r 0), dp 1 r)
def digV (l : List Int) : Int := l.foldl (fun n x => min (n * 10 + (x - 48)) 2147483648) 0
def digR (l : List Int) : Int := if l.all sDigit then digV l else 0
def digOk (l : List Int) : Bool := l.all sDigit && !l.isEmpty
def intV (l : List Int) : Int :=
 if l.head? = some 45 then (if digOk l.tail then - digR l.tail else 0) else
 if l.head? = some 43 then (if digOk l.tail then min (digR l.tail) 2147483647 else 0) else
 if digOk l then min (digR l) 2147483647 else 0
def num1 (r : List Int) : List Int := if sgn r 0 then dp 1 r else r
def num2 (r : List Int) : List Int := cnt (num1 r)
def num3 (r : List Int) : List Int := if frac (num2 r) 0 then cnt (dp 1 (num2 r)) else num2 r
def num4 (r : List Int) : List Int := if 0 < expo (num3 r) then cnt (dp (expo (num3 r)) (num3 r)) else num3 r
def numW (r : List Int) : Bool := !frac (num2 r) 0 && decide (expo (num3 r) = 0)
def plainT (r : List Int) : Tok := { kind := 0, int := if numW r then intV (nums (runesBytes (r.take (r.length - (num2 r).length)))) else 0, whole := numW r, sign := sgn r 0 }
def numberT (r : List Int) : Tok × List Int :=
 if nbg (num4 r) 0 then ({ plainT r with kind := 12, text := runesBytes (nm (num4 r)).1 }, (nm (num4 r)).2) else
 if pre [37] (num4 r) then ({ plainT r with kind := 11 }, dp 1 (num4 r)) else ({ plainT r with kind := 10 }, num4 r)
def tokT (r : List Int) : Tok × List Int :=
 if sWhite (ah r 0) then ({ kind := 13 }, wh r) else if ah r 0 = 34 ∨ ah r 0 = 39 then quotedT r else if ah r 0 = 35 then hashT r else if ah r 0 = 64 then atT r else
 if numB r then numberT r else if pre [45, 45, 62] r then ({ kind := 15 }, dp 3 r) else if pre [60, 33, 45, 45] r then ({ kind := 14 }, dp 4 r) else
 if nbg r 0 then identT r else (markT (ah r 0), dp 1 r)
theorem qt_suf (q : Int) (r : List Int) : (qt q r).2.2 <:+ r := by
 induction r using qt.induct q with
 | case1 r h => unfold qt; rw [dif_pos h]; exact List.nil_suffix
 | case2 r h h2 => unfold qt; rw [dif_neg h, if_pos h2]; exact dp_suf _ _
 | case3 r h h2 h3 => unfold qt; rw [dif_neg h, if_neg h2, if_pos h3]; exact List.suffix_refl _
 | case4 r h h2 h3 h4 ih => unfold qt; rw [dif_neg h, if_neg h2, if_neg h3, if_pos h4]; exact ih.trans (dp_suf _ _)
 | case5 r h h2 h3 h4 h5 => unfold qt; rw [dif_neg h, if_neg h2, if_neg h3, if_neg h4, if_pos h5]; exact List.nil_suffix
 | case6 r h h2 h3 h4 h5 h6 ih => unfold qt; rw [dif_neg h, if_neg h2, if_neg h3, if_neg h4, if_neg h5, if_pos h6]; exact ih.trans ((escT_suf _).trans (dp_suf _ _))
 | case7 r h h2 h3 h4 h5 h6 ih => unfold qt; rw [dif_neg h, if_neg h2, if_neg h3, if_neg h4, if_neg h5, if_neg h6]; exact ih.trans (dp_suf _ _)
theorem badT_suf (r : List Int) : badT r <:+ r := by
 induction r using badT.induct with
 | case1 r h => unfold badT; rw [dif_pos h]; exact List.nil_suffix
 | case2 r h h2 => unfold badT; rw [dif_neg h, if_pos h2]; exact dp_suf _ _
 | case3 r h h2 h3 ih => unfold badT; rw [dif_neg h, if_neg h2, if_pos h3]; exact ih.trans ((escT_suf _).trans (dp_suf _ _))
 | case4 r h h2 h3 ih => unfold badT; rw [dif_neg h, if_neg h2, if_neg h3]; exact ih.trans (dp_suf _ _)
theorem adr_suf (r : List Int) : (adr r).2.2 <:+ r := by
 induction r using adr.induct with
 | case1 r h => unfold adr; rw [dif_pos h]; exact List.nil_suffix
 | case2 r h h2 => unfold adr; rw [dif_neg h, if_pos h2]; exact dp_suf _ _
 | case3 r h h2 h3 ih => unfold adr; rw [dif_neg h, if_neg h2, if_pos h3]; exact ih.trans ((escT_suf _).trans (dp_suf _ _))
 | case4 r h h2 h3 h4 h5 => unfold adr; rw [dif_neg h, if_neg h2, if_neg h3, if_pos h4, if_pos h5]; exact List.nil_suffix
 | case5 r h h2 h3 h4 h5 h6 => unfold adr; rw [dif_neg h, if_neg h2, if_neg h3, if_pos h4, if_neg h5, if_pos h6]; exact (dp_suf _ _).trans (wh_suf _)
 | case6 r h h2 h3 h4 h5 h6 => unfold adr; rw [dif_neg h, if_neg h2, if_neg h3, if_pos h4, if_neg h5, if_neg h6]; exact (badT_suf _).trans (wh_suf _)
 | case7 r h h2 h3 h4 h5 => unfold adr; rw [dif_neg h, if_neg h2, if_neg h3, if_neg h4, if_pos h5]; exact badT_suf _
 | case8 r h h2 h3 h4 h5 ih => unfold adr; rw [dif_neg h, if_neg h2, if_neg h3, if_neg h4, if_neg h5]; exact ih.trans (dp_suf _ _)
end Go.Proofs.YtclicjiakkcfcaaGreatDoor
