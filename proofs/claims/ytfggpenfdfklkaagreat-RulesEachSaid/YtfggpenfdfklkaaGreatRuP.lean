
import Derived.Test.YtfggpenfdfklkaaGreatShA
namespace Go.Proofs.YtfggpenfdfklkaaGreat
open Go.RowKit
/-! Package rules, as plain functions of a list and a place. -/
def atP (p : Tok → Bool) (l : List Nd) (i : Nat) : Bool := match l.drop i with
  | [] => false
  | n :: _ => p n.tok
def passP (p : Tok → Bool) (l : List Nd) (i : Nat) : Nat := i + ((l.drop i).takeWhile (fun n => p n.tok)).length
theorem atP_lt {p : Tok → Bool} {l : List Nd} {i : Nat} (h : i < l.length) : atP p l i = p l[i].tok := by
  unfold atP
  rw [List.drop_eq_getElem_cons h]
theorem atP_ge {p : Tok → Bool} {l : List Nd} {i : Nat} (h : l.length ≤ i) : atP p l i = false := by
  unfold atP
  rw [List.drop_eq_nil_of_le h]
theorem atP_lt_of {p : Tok → Bool} {l : List Nd} {i : Nat} (h : atP p l i = true) : i < l.length := by
  rcases Nat.lt_or_ge i l.length with h1 | h1
  · exact h1
  · rw [atP_ge h1] at h; cases h
theorem passP_yes {p : Tok → Bool} {l : List Nd} {i : Nat} (h : atP p l i = true) : passP p l (i + 1) = passP p l i := by
  have hl := atP_lt_of h
  rw [atP_lt hl] at h
  unfold passP
  rw [List.drop_eq_getElem_cons hl, List.takeWhile_cons, if_pos h, List.length_cons]
  omega
theorem passP_no {p : Tok → Bool} {l : List Nd} {i : Nat} (h : atP p l i = false) : passP p l i = i := by
  unfold passP
  rcases Nat.lt_or_ge i l.length with h1 | h1
  · rw [atP_lt h1] at h
    rw [List.drop_eq_getElem_cons h1, List.takeWhile_cons, if_neg (by rw [h]; decide)]
    rfl
  · rw [List.drop_eq_nil_of_le h1]; rfl
theorem passP_le {p : Tok → Bool} {l : List Nd} {i : Nat} (h : i ≤ l.length) : passP p l i ≤ l.length := by
  unfold passP
  have h1 := (List.takeWhile_prefix (fun n : Nd => p n.tok) (l := l.drop i)).length_le
  rw [List.length_drop] at h1
  omega
theorem passP_ge {p : Tok → Bool} {l : List Nd} {i : Nat} : i ≤ passP p l i := by unfold passP; omega
theorem drop_passP (p : Tok → Bool) (l : List Nd) (i : Nat) : l.drop (passP p l i) = (l.drop i).dropWhile (fun n => p n.tok) := by
  unfold passP
  rw [← List.drop_drop]
  generalize l.drop i = m
  induction m with
  | nil => rfl
  | cons x m ih =>
    rw [List.takeWhile_cons, List.dropWhile_cons]
    cases hp : p x.tok
    · rfl
    · simpa using ih
theorem take_passP (p : Tok → Bool) (l : List Nd) (i : Nat) : (l.take (passP p l i)).drop i = (l.drop i).takeWhile (fun n => p n.tok) := by
  unfold passP
  rw [List.drop_take, show i + ((l.drop i).takeWhile fun n => p n.tok).length - i = ((l.drop i).takeWhile fun n => p n.tok).length by omega]
  exact List.prefix_iff_eq_take.1 (List.takeWhile_prefix _) |>.symm
/-! What a declaration's value says. -/
def whL (l : List Nd) : Prop := ∀ n ∈ l, isWh n = true
theorem white_split : ∀ l : List Nd, whL l ∨ ∃ X n W, l = X ++ n :: W ∧ isWh n = false ∧ whL W
  | [] => .inl (fun _ h => by simp at h)
  | m :: l => by
    rcases white_split l with h | ⟨X, n, W, rfl, hn, hw⟩
    · by_cases hm : isWh m = true
      · exact .inl (fun x hx => by rcases List.mem_cons.1 hx with rfl | hx; exact hm; exact h x hx)
      · exact .inr ⟨[], m, l, rfl, by simpa using hm, h⟩
    · exact .inr ⟨m :: X, n, W, rfl, hn, hw⟩
theorem trN_white : ∀ {W : List Nd}, whL W → trN W = 0
  | [], _ => rfl
  | n :: W, h => by rw [trN, trN_white (fun x hx => h x (by simp [hx])), if_pos rfl, if_pos (h n (by simp))]
theorem trN_at : ∀ (X : List Nd) (n : Nd) (W : List Nd), isWh n = false → whL W → trN (X ++ n :: W) = X.length + 1
  | [], n, W, hn, hw => by rw [List.nil_append, trN, trN_white hw, if_pos rfl, if_neg (by rw [hn]; decide)]; rfl
  | m :: X, n, W, hn, hw => by rw [List.cons_append, trN, trN_at X n W hn hw, if_neg (by omega)]; simp
theorem trA_white : ∀ {W : List Nd}, whL W → trA W = []
  | [], _ => rfl
  | n :: W, h => by rw [trA, if_pos (h n (by simp)), trA_white (fun x hx => h x (by simp [hx]))]
theorem trA_at : ∀ (X : List Nd) (n : Nd) (R : List Nd), isWh n = false → trA (X ++ n :: R) = trA X ++ n :: R
  | [], n, R, hn => by
    have h : trA (n :: R) = n :: R := by rw [trA, if_neg (by rw [hn]; decide)]
    rw [List.nil_append, h]
    rfl
  | m :: X, n, R, hn => by
    rw [List.cons_append, trA, trA]
    split
    · exact trA_at X n R hn
    · rfl
theorem trimS_at (X : List Nd) (n : Nd) (W : List Nd) (hn : isWh n = false) (hw : whL W) : trimS (X ++ n :: W) = trA X ++ [n] := by
  unfold trimS trZ
  rw [trA_at X n W hn, trN_at _ n W hn hw, show (trA X ++ n :: W) = (trA X ++ [n]) ++ W by simp, List.take_append_of_le_length (by simp), List.take_of_length_le (by simp)]
theorem trimS_white {W : List Nd} (h : whL W) : trimS W = [] := by unfold trimS; rw [trA_white h]; rfl
theorem trimS_trA (X : List Nd) : trimS (trA X) = trimS X := by
  unfold trimS
  rw [trA_id (trA X) (trA_head X)]
theorem atS_app : ∀ (A B : List Nd) (k : Nat), atS (A ++ B) k = atS A k ++ atS B (k + A.length)
  | [], B, k => by simp [atS]
  | n :: A, B, k => by
    rw [List.cons_append, atS, atS, atS_app A B (k + 1), List.length_cons, show k + 1 + A.length = k + (A.length + 1) by omega]
    split <;> simp
theorem atS_white : ∀ {W : List Nd} (k : Nat), whL W → atS W k = []
  | [], _, _ => rfl
  | n :: W, k, h => by rw [atS, if_pos (h n (by simp)), atS_white (k + 1) (fun x hx => h x (by simp [hx]))]
/-- As the program has it: the last two but White, told from the end. -/
def valP (l : List Nd) : List Nd × Bool :=
  if 0 < trN l then
    if impB (tokAt l ((trN l - 1 : Nat) : Int)) = true then
      if 0 < trN (l.take (trN l - 1)) then
        if bangB (tokAt l ((trN (l.take (trN l - 1)) - 1 : Nat) : Int)) = true then (trimS (l.take (trN (l.take (trN l - 1)) - 1)), true) else (trimS l, false)
      else (trimS l, false)
    else (trimS l, false)
  else (trimS l, false)
theorem tokAt_app (X : List Nd) (n : Nd) (R : List Nd) : tokAt (X ++ n :: R) (X.length : Int) = n.tok := by
  unfold tokAt
  rw [Int.toNat_natCast, List.getD_eq_getElem?_getD, List.getElem?_append_right (Nat.le_refl _), Nat.sub_self]
  rfl
theorem valP_is (l : List Nd) : valP l = valS l := by
  unfold valS
  rcases white_split l with h | ⟨Y, n1, W1, rfl, hn1, hw1⟩
  · unfold valP
    rw [trN_white h, if_neg (by omega), trimS_white h]
    rfl
  · have hN := trN_at Y n1 W1 hn1 hw1
    have hT := trimS_at Y n1 W1 hn1 hw1
    have e1 : tokAt (Y ++ n1 :: W1) (Y.length : Int) = n1.tok := tokAt_app Y n1 W1
    have e2 : (Y ++ n1 :: W1).take Y.length = Y := by rw [List.take_append_of_le_length (Nat.le_refl _), List.take_length]
    unfold valP
    rw [hN, if_pos (by omega), show Y.length + 1 - 1 = Y.length by omega, e1, e2, hT]
    rcases white_split Y with h | ⟨X, n2, W2, rfl, hn2, hw2⟩
    · rw [trN_white h, trA_white h]
      have hv : valT [n1] = ([n1], false) := by
        unfold valT
        rw [if_pos (by rw [atS, if_neg (by rw [hn1]; decide), atS]; decide)]
      rw [List.nil_append, hv, if_neg (show ¬ 0 < 0 by omega)]
      split <;> rfl
    · have hA : trA (X ++ n2 :: W2) = trA X ++ n2 :: W2 := trA_at X n2 W2 hn2
      have hat : atS (trA X ++ n2 :: W2 ++ [n1]) 0 = atS (trA X) 0 ++ [((trA X).length : Int), (((trA X).length + 1 + W2.length : Nat) : Int)] := by
        rw [List.append_assoc, atS_app, List.cons_append, atS, if_neg (by rw [hn2]; decide), atS_app, atS_white _ hw2, atS, if_neg (by rw [hn1]; decide), atS]
        simp
      have hl : (atS (trA X ++ n2 :: W2 ++ [n1]) 0).length = (atS (trA X) 0).length + 2 := by rw [hat]; simp
      have t1 : tokAt (trA X ++ n2 :: W2 ++ [n1]) ((trA X).length : Int) = n2.tok := by
        rw [List.append_assoc, List.cons_append]
        exact tokAt_app _ _ _
      have t2 : tokAt (trA X ++ n2 :: W2 ++ [n1]) (((trA X).length + 1 + W2.length : Nat) : Int) = n1.tok := by
        have := tokAt_app (trA X ++ n2 :: W2) n1 []
        rw [show (trA X ++ n2 :: W2).length = (trA X).length + 1 + W2.length by simp; omega] at this
        exact this
      have g1 : nth (atS (trA X ++ n2 :: W2 ++ [n1]) 0) ((atS (trA X) 0).length + 2 - 2) = ((trA X).length : Int) := by
        rw [hat]
        unfold nth
        rw [List.getD_eq_getElem?_getD, List.getElem?_append_right (by omega)]
        simp
      have g2 : nth (atS (trA X ++ n2 :: W2 ++ [n1]) 0) ((atS (trA X) 0).length + 2 - 1) = (((trA X).length + 1 + W2.length : Nat) : Int) := by
        rw [hat]
        unfold nth
        rw [List.getD_eq_getElem?_getD, List.getElem?_append_right (by omega), show (atS (trA X) 0).length + 2 - 1 - (atS (trA X) 0).length = 1 by omega]
        rfl
      rw [trN_at X n2 W2 hn2 hw2, show X.length + 1 - 1 = X.length by omega, if_pos (show 0 < X.length + 1 by omega), hA]
      have e3 : tokAt (X ++ n2 :: W2 ++ n1 :: W1) (X.length : Int) = n2.tok := by
        rw [List.append_assoc, List.cons_append]
        exact tokAt_app _ _ _
      have e4 : (X ++ n2 :: W2 ++ n1 :: W1).take X.length = X := by
        rw [List.append_assoc, List.take_append_of_le_length (Nat.le_refl _), List.take_length]
      rw [e3, e4]
      unfold valT
      rw [hl, if_neg (show ¬ (atS (trA X) 0).length + 2 < 2 by omega), g1, g2, t1, t2, Int.toNat_natCast]
      have e5 : (trA X ++ n2 :: W2 ++ [n1]).take (trA X).length = trA X := by
        rw [List.append_assoc, List.take_append_of_le_length (Nat.le_refl _), List.take_length]
      rw [e5, trimS_trA]
      cases hb : bangB n2.tok
      · simp
      · cases hi : impB n1.tok
        · simp
        · simp
end Go.Proofs.YtfggpenfdfklkaaGreat
