
import Derived.Test.YteflofkndlhhiaaTrI
namespace Go.Proofs.Yteflofkndlhhiaa
open Go.RowKit
def plL : List Int := [40, 91, 123, 41, 93, 125, 44, 58, 59]
def kdL : List Int := [19, 19, 19, 20, 20, 20, 18, 16, 17]
theorem pre_ah4 {a b c d : Int} {r : List Int} (h : ah r 0 ≠ a) (ha : a ≠ -1) (hb : b ≠ -1) (hc : c ≠ -1) (hd : d ≠ -1) : pre [a, b, c, d] r = false := by
  by_cases hp : pre [a, b, c, d] r = true
  · exfalso
    have := (pre_iff [a, b, c, d] r (by intro x hx; simp at hx; rcases hx with rfl | rfl | rfl | rfl; exact ha; exact hb; exact hc; exact hd)).1 hp 0 (by simp)
    exact h (by simpa [nth] using this)
  · simpa using hp
theorem tokT_one {r : List Int} {a : Int} (ha : ah r 0 = a) (h1 : sWhite a = false) (h2 : ¬ (a = 34 ∨ a = 39)) (h3 : a ≠ 35) (h4 : a ≠ 64) (h5 : sDigit a = false) (h6 : a ≠ 43) (h7 : a ≠ 45) (h8 : a ≠ 46) (h9 : a ≠ 60) (h10 : sLetter a = false) (h11 : a ≠ 92) :
    tokT r = (markT a, dp 1 r) := by
  have n1 : numB r = false := by simp [numB, sgn, frac, ha, h5, h6, h7, h8]
  have n2 : pre [45, 45, 62] r = false := pre_ah3 (by rw [ha]; exact h7) (by decide) (by decide) (by decide)
  have n3 : pre [60, 33, 45, 45] r = false := pre_ah4 (by rw [ha]; exact h9) (by decide) (by decide) (by decide) (by decide)
  have n4 : nbg r 0 = false := by simp [nbg, esc, ha, h7, h10, h11]
  unfold tokT
  rw [ha, h1, n1, n2, n3, n4, if_neg (by decide), if_neg h2, if_neg h3, if_neg h4, if_neg (by decide), if_neg (by decide), if_neg (by decide), if_neg (by decide)]
theorem tokT_plain {r : List Int} {k : Nat} (hk : k < 9) (h : nth plL k = ah r 0) : tokT r = ({ kind := nth kdL k, text := if k < 6 then Utf8.encode (ah r 0) else ⟨#[]⟩ }, dp 1 r) := by
  have hm : ∀ j : Fin 9, sWhite (nth plL j) = false ∧ ¬ (nth plL j = 34 ∨ nth plL j = 39) ∧ nth plL j ≠ 35 ∧ nth plL j ≠ 64 ∧ sDigit (nth plL j) = false ∧ nth plL j ≠ 43 ∧ nth plL j ≠ 45 ∧ nth plL j ≠ 46 ∧ nth plL j ≠ 60 ∧ sLetter (nth plL j) = false ∧ nth plL j ≠ 92 := by decide +kernel
  obtain ⟨h1, h2, h3, h4, h5, h6, h7, h8, h9, h10, h11⟩ := hm ⟨k, hk⟩
  have ha : ah r 0 = nth plL k := h.symm
  rw [tokT_one ha h1 h2 h3 h4 h5 h6 h7 h8 h9 h10 h11, ha]
  congr 1
  have : k = 0 ∨ k = 1 ∨ k = 2 ∨ k = 3 ∨ k = 4 ∨ k = 5 ∨ k = 6 ∨ k = 7 ∨ k = 8 := by omega
  rcases this with rfl | rfl | rfl | rfl | rfl | rfl | rfl | rfl | rfl <;> rfl
theorem markT_else {a : Int} (h : ∀ j, j < 9 → ¬ nth plL j = a) : markT a = { kind := 9, text := Utf8.encode a } := by
  have h0 := h 0 (by decide); have h1 := h 1 (by decide); have h2 := h 2 (by decide); have h3 := h 3 (by decide); have h4 := h 4 (by decide); have h5 := h 5 (by decide); have h6 := h 6 (by decide); have h7 := h 7 (by decide); have h8 := h 8 (by decide)
  simp only [nth, plL, List.getD_cons_succ, List.getD_cons_zero] at h0 h1 h2 h3 h4 h5 h6 h7 h8
  unfold markT
  rw [if_neg (Ne.symm h6), if_neg (Ne.symm h7), if_neg (Ne.symm h8), if_neg (by rintro (e | e | e) <;> first | exact h0 e.symm | exact h1 e.symm | exact h2 e.symm), if_neg (by rintro (e | e | e) <;> first | exact h3 e.symm | exact h4 e.symm | exact h5 e.symm)]
/-- Which token begins here, where none of nine signs stands alone. -/
theorem tok_white {r : List Int} (h : sWhite (ah r 0) = true) : tokT r = ({ kind := 13 }, wh r) := by unfold tokT; rw [if_pos h]
theorem tok_quote {r : List Int} (h0 : sWhite (ah r 0) = false) (h : ah r 0 = 34 ∨ ah r 0 = 39) : tokT r = quotedT r := by unfold tokT; rw [h0, if_neg (by decide), if_pos h]
theorem tok_hash {r : List Int} (h : ah r 0 = 35) (h2 : (sName (ah r 1) || esc r 1) = true) : tokT r = ({ kind := 4, text := runesBytes (nm (dp 1 r)).1, id := nbg (dp 1 r) 0 }, (nm (dp 1 r)).2) := by
  unfold tokT hashT; rw [h, if_neg (by decide), if_neg (by decide), if_pos rfl, if_pos h2]
theorem tok_at {r : List Int} (h : ah r 0 = 64) (h2 : nbg r 1 = true) : tokT r = ({ kind := 3, text := runesBytes (nm (dp 1 r)).1 }, (nm (dp 1 r)).2) := by
  unfold tokT atT; rw [h, if_neg (by decide), if_neg (by decide), if_neg (by decide), if_pos rfl, if_pos h2]
theorem numB_signs {r : List Int} (h : numB r = true) : ah r 0 = 43 ∨ ah r 0 = 45 ∨ ah r 0 = 46 ∨ sDigit (ah r 0) = true := by
  unfold numB frac sgn at h
  by_cases c : (decide (ah r 0 = 43 ∨ ah r 0 = 45)) = true
  · simp at c; rcases c with c | c
    · exact .inl c
    · exact .inr (.inl c)
  · rw [if_neg c] at h
    simp at h
    rcases h with h | h
    · exact .inr (.inr (.inr h))
    · exact .inr (.inr (.inl h.1))
theorem tok_num {r : List Int} (h : numB r = true) : tokT r = numberT r := by
  have hs := numB_signs h
  have h0 : sWhite (ah r 0) = false ∧ ¬ (ah r 0 = 34 ∨ ah r 0 = 39) ∧ ah r 0 ≠ 35 ∧ ah r 0 ≠ 64 := by
    generalize ah r 0 = a at hs
    simp [sDigit] at hs
    simp [sWhite]
    omega
  unfold tokT
  rw [h0.1, if_neg (by decide), if_neg h0.2.1, if_neg h0.2.2.1, if_neg h0.2.2.2, if_pos h]
theorem tok_rest {r : List Int} (h0 : sWhite (ah r 0) = false) (h1 : ¬ (ah r 0 = 34 ∨ ah r 0 = 39)) (h2 : ¬ (ah r 0 = 35 ∧ (sName (ah r 1) || esc r 1) = true)) (h3 : ¬ (ah r 0 = 64 ∧ nbg r 1 = true)) (h4 : numB r = false) (h5 : ∀ j, j < 9 → ¬ nth plL j = ah r 0) :
    tokT r = if pre [45, 45, 62] r then ({ kind := 15 }, dp 3 r) else if pre [60, 33, 45, 45] r then ({ kind := 14 }, dp 4 r) else if nbg r 0 then identT r else ({ kind := 9, text := Utf8.encode (ah r 0) }, dp 1 r) := by
  have hm := markT_else h5
  unfold tokT
  rw [h0, if_neg (by decide), if_neg h1, hm]
  by_cases a : ah r 0 = 35
  · rw [if_pos a]
    unfold hashT
    rw [if_neg (fun h => h2 ⟨a, h⟩), hm]
    have n2 : pre [45, 45, 62] r = false := pre_ah3 (by rw [a]; decide) (by decide) (by decide) (by decide)
    have n3 : pre [60, 33, 45, 45] r = false := pre_ah4 (by rw [a]; decide) (by decide) (by decide) (by decide) (by decide)
    have n4 : nbg r 0 = false := by simp [nbg, esc, a, sLetter]
    rw [n2, n3, n4]
    rfl
  · rw [if_neg a]
    by_cases b : ah r 0 = 64
    · rw [if_pos b]
      unfold atT
      rw [if_neg (fun h => h3 ⟨b, h⟩), hm]
      have n2 : pre [45, 45, 62] r = false := pre_ah3 (by rw [b]; decide) (by decide) (by decide) (by decide)
      have n3 : pre [60, 33, 45, 45] r = false := pre_ah4 (by rw [b]; decide) (by decide) (by decide) (by decide) (by decide)
      have n4 : nbg r 0 = false := by simp [nbg, esc, b, sLetter]
      rw [n2, n3, n4]
      rfl
    · rw [if_neg b, h4]
      rfl
theorem ret_i {k : IntKind} {a b : Int} (h : a = b) : Value.int k a = Value.int k b := by rw [h]
theorem pre_three (r : List Int) : pre [45, 45, 62] r = (ah r 0 == 45 && (ah r 1 == 45 && ah r 2 == 62)) := by
  have h := pre_iff [45, 45, 62] r (by decide)
  rw [Bool.eq_iff_iff, h]
  constructor
  · intro hh; have h0 := hh 0 (by decide); have h1 := hh 1 (by decide); have h2 := hh 2 (by decide)
    simp [nth] at h0 h1 h2
    simp [h0, h1, h2]
  · intro hh j hj
    simp at hh
    have : j = 0 ∨ j = 1 ∨ j = 2 := by simp at hj; omega
    rcases this with rfl | rfl | rfl <;> simp [nth, hh]
theorem pre_four (r : List Int) : pre [60, 33, 45, 45] r = (ah r 0 == 60 && (ah r 1 == 33 && (ah r 2 == 45 && ah r 3 == 45))) := by
  have h := pre_iff [60, 33, 45, 45] r (by decide)
  rw [Bool.eq_iff_iff, h]
  constructor
  · intro hh; have h0 := hh 0 (by decide); have h1 := hh 1 (by decide); have h2 := hh 2 (by decide); have h3 := hh 3 (by decide)
    simp [nth] at h0 h1 h2 h3
    simp [h0, h1, h2, h3]
  · intro hh j hj
    simp at hh
    have : j = 0 ∨ j = 1 ∨ j = 2 ∨ j = 3 := by simp at hj; omega
    rcases this with rfl | rfl | rfl | rfl <;> simp [nth, hh]
end Go.Proofs.Yteflofkndlhhiaa
