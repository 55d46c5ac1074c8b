
import Derived.Test.YtdnpnbikhieneaaTmA
namespace Go.Proofs.Ytdnpnbikhieneaa
open Go.RowKit
theorem toks_step {r : List Int} (h : pre [47, 42] r = false) (hl : r ≠ []) : toks r = (tokT r).1 :: toks (tokT r).2 := by
  rw [toks_eq, cm_no h]
  unfold toksC
  rw [if_neg (by simpa using hl)]
theorem toks_none : toks [] = [] := by rw [toks_eq]; rfl
theorem nbg_a (X : List Int) : nbg (97 :: X) 0 = true := by
  have : sLetter 97 = true := by decide +kernel
  show (if (97 : Int) = 45 then _ else sLetter 97 || _) = true
  rw [if_neg (by decide), this]
  rfl
theorem tok_a (X : List Int) : tokT (97 :: X) = identT (97 :: X) := by
  have nb : numB (97 :: X) = false := by
    cases h : numB (97 :: X) with
    | false => rfl
    | true => rcases numB_signs h with e | e | e | e <;> simp [sDigit] at e
  unfold tokT
  rw [if_neg (by show ¬ sWhite 97 = true; decide +kernel), if_neg (by show ¬ ((97 : Int) = 34 ∨ (97 : Int) = 39); decide), if_neg (by show ¬ ((97 : Int) = 35); decide), if_neg (by show ¬ ((97 : Int) = 64); decide),
    if_neg (by rw [nb]; decide), if_neg (by show ¬ false = true; decide), if_neg (by show ¬ false = true; decide), if_pos (nbg_a X)]
/-- What TokenNames wants. -/
def wantM (k : Nat) (l : List Nat) : Tok :=
  { kind := if k = 0 then 1 else if k = 1 then 4 else if k = 2 then 3 else 2, text := runesBytes (97 :: l.map (fun n : Nat => (n : Int))), id := decide (k = 1) }
def preM (k : Nat) : List Int := if k = 1 then [35] else if k = 2 then [64] else []
def postM (k : Nat) : List Int := if k = 3 then [40] else []
theorem nametok (k : Nat) (hk : k ≤ 3) (l : List Nat) (h : ∀ n ∈ l, mayEsc n) (hu : k = 3 → ((lowS (runesBytes (97 :: l.map (fun n : Nat => (n : Int))))).toList == [117, 114, 108]) = false) :
    toks (preM k ++ (97 :: (escL l ++ postM k))) = [wantM k l] := by
  have hk4 : k = 0 ∨ k = 1 ∨ k = 2 ∨ k = 3 := by omega
  have c0 : sName (ah ([] : List Int) 0) = false := by decide +kernel
  have e0 : esc ([] : List Int) 0 = false := by decide +kernel
  rcases hk4 with rfl | rfl | rfl | rfl
  · show toks (97 :: (escL l ++ [])) = _
    have hn := nm_a l [] h c0 e0
    have hi : identT (97 :: (escL l ++ [])) = (wantM 0 l, []) := by
      unfold identT
      rw [hn, if_pos (by show ¬ (-1 : Int) = 40; decide)]
      rfl
    rw [toks_step (by rfl) (by simp), tok_a, hi, toks_none]
  · show toks (35 :: (97 :: (escL l ++ []))) = _
    have hn := nm_a l [] h c0 e0
    have e : dp 1 (35 :: (97 :: (escL l ++ []))) = 97 :: (escL l ++ []) := rfl
    have hs : (sName (ah (35 :: (97 :: (escL l ++ []))) 1) || esc (35 :: (97 :: (escL l ++ []))) 1) = true := by
      have : sName 97 = true := by decide +kernel
      show (sName 97 || _) = true
      rw [this]; rfl
    rw [toks_step (by rfl) (by simp), tok_hash (by rfl) hs, e, hn, nbg_a]
    exact congrArg (List.cons _) toks_none
  · show toks (64 :: (97 :: (escL l ++ []))) = _
    have hn := nm_a l [] h c0 e0
    have e : dp 1 (64 :: (97 :: (escL l ++ []))) = 97 :: (escL l ++ []) := rfl
    have hs : nbg (64 :: (97 :: (escL l ++ []))) 1 = true := by
      have := nbg_a (escL l ++ [])
      exact this
    rw [toks_step (by rfl) (by simp), tok_at (by rfl) hs, e, hn]
    exact congrArg (List.cons _) toks_none
  · show toks (97 :: (escL l ++ [40])) = _
    have c1 : sName (ah ([40] : List Int) 0) = false := by decide +kernel
    have e1 : esc ([40] : List Int) 0 = false := by decide +kernel
    have hn := nm_a l [40] h c1 e1
    have hi : identT (97 :: (escL l ++ [40])) = (wantM 3 l, []) := by
      unfold identT
      rw [hn, if_neg (by show ¬ ¬ (40 : Int) = 40; decide)]
      dsimp only
      rw [hu rfl, if_neg (by decide)]
      rfl
    rw [toks_step (by rfl) (by simp), tok_a, hi, toks_none]
end Go.Proofs.Ytdnpnbikhieneaa
