
import Derived.Test.YtfggpenfdfklkaaGreatTjB
namespace Go.Proofs.YtfggpenfdfklkaaGreat
open Go.RowKit
section
variable {T : List Int}
theorem pre_bk (hT : Bk T) : ∀ (l r : List Int), (∀ x ∈ l, x ≠ 32 ∧ x ≠ -1) → pre l (r ++ T) = pre l (r ++ [32])
  | [], r, _ => rfl
  | a :: l, [], h => by
    have h1 := h a (by simp)
    have e1 : pre (a :: l) ([] ++ [32]) = false := by
      show (a == 32 && l.isPrefixOf []) = false
      simp [h1.1]
    have e2 : pre (a :: l) ([] ++ T) = false := by
      rcases hT with rfl | ⟨B, rfl⟩
      · rfl
      · show (a == 32 && l.isPrefixOf B) = false
        simp [h1.1]
    rw [e1, e2]
  | a :: l, b :: r, h => by
    have ih := pre_bk hT l r (fun x hx => h x (by simp [hx]))
    unfold pre at ih
    show (a == b && l.isPrefixOf (r ++ T)) = (a == b && l.isPrefixOf (r ++ [32]))
    rw [ih]
theorem cnt_bk (hT : Bk T) : ∀ s : List Int, cnt (s ++ T) = cnt s ++ T
  | [] => by
    rw [List.nil_append, cnt_no (cls0 hT.ah0).2.1]
    rfl
  | a :: s => by
    by_cases c : sDigit a = true
    · rw [cnt_yes (r := a :: s ++ T) (show sDigit (ah (a :: s ++ T) 0) = true from c), cnt_yes (r := a :: s) (show sDigit (ah (a :: s) 0) = true from c)]
      exact cnt_bk hT s
    · have c : sDigit a = false := by simpa using c
      rw [cnt_no (r := a :: s ++ T) (show sDigit (ah (a :: s ++ T) 0) = false from c), cnt_no (r := a :: s) (show sDigit (ah (a :: s) 0) = false from c)]
theorem sgn_bk (hT : Bk T) (s : List Int) : sgn (s ++ T) 0 = sgn s 0 := by
  have hc := cls0 hT.ah0
  cases s with
  | nil =>
    unfold sgn
    rw [List.nil_append]
    have e : ah ([] : List Int) 0 = -1 := rfl
    rw [e]
    simp [hc.2.2.2.2.2.2.1, hc.2.2.2.2.2.2.2.1]
  | cons a s => rfl
theorem frac_bk (hT : Bk T) (s : List Int) : frac (s ++ T) 0 = frac s 0 := by
  have hc := cls0 hT.ah0
  match s with
  | [] =>
    unfold frac
    rw [List.nil_append]
    have e : ah ([] : List Int) 0 = -1 := rfl
    rw [e]
    simp [hc.2.2.2.2.2.2.2.2.1]
  | [a] =>
    have e1 : ah ([a] ++ T) 1 = ah T 0 := rfl
    have e2 : ah [a] 1 = -1 := rfl
    have e3 : ah ([a] ++ T) 0 = a := rfl
    have e4 : ah [a] 0 = a := rfl
    unfold frac
    rw [e1, e2, e3, e4, hc.2.1]
    rfl
  | a :: b :: s => rfl
theorem expo_bk (hT : Bk T) (s : List Int) : expo (s ++ T) = expo s := by
  have hc := cls0 hT.ah0
  match s with
  | [] =>
    unfold expo
    rw [List.nil_append]
    have e : ah ([] : List Int) 0 = -1 := rfl
    rw [e, if_neg (by intro h; rcases h with h | h; exact hc.2.2.2.2.2.2.2.2.2.2.2.2.2.2.1 h; exact hc.2.2.2.2.2.2.2.2.2.2.2.2.2.2.2 h), if_neg (by decide)]
  | [a] =>
    have e1 : ah ([a] ++ T) 1 = ah T 0 := rfl
    have e2 : ah [a] 1 = -1 := rfl
    have e3 : ah ([a] ++ T) 0 = a := rfl
    have e4 : ah [a] 0 = a := rfl
    have e5 : sgn ([a] ++ T) 1 = false := by unfold sgn; rw [e1]; simp [hc.2.2.2.2.2.2.1, hc.2.2.2.2.2.2.2.1]
    have e6 : sgn [a] 1 = false := by unfold sgn; rw [e2]; rfl
    unfold expo
    rw [e3, e4, e5, e6, e1, e2, hc.2.1]
    rfl
  | [a, b] =>
    have e1 : ah ([a, b] ++ T) 2 = ah T 0 := rfl
    have e2 : ah [a, b] 2 = -1 := rfl
    have e3 : sgn ([a, b] ++ T) 1 = sgn [a, b] 1 := rfl
    have e4 : ah ([a, b] ++ T) 1 = ah [a, b] 1 := rfl
    have e5 : ah ([a, b] ++ T) 0 = ah [a, b] 0 := rfl
    unfold expo
    rw [e3, e4, e5, e1, e2, hc.2.1]
    rfl
  | a :: b :: c :: s => rfl
theorem Bk.blank : Bk [32] := .inr ⟨[], rfl⟩
theorem numB_bk (hT : Bk T) (s : List Int) : numB (s ++ T) = numB s := by
  have hc := cls0 hT.ah0
  have h0 := sgn_bk hT s
  have h1 := frac_bk hT s
  unfold numB
  rw [h0, h1]
  match s with
  | [] =>
    have e : ah ([] : List Int) 0 = -1 := rfl
    have es : sgn ([] : List Int) 0 = false := by decide
    rw [es, if_neg (by decide), if_neg (by decide), List.nil_append, e, hc.2.1]
    rfl
  | [a] =>
    have e1 : ah ([a] ++ T) 1 = ah T 0 := rfl
    have e2 : ah [a] 1 = -1 := rfl
    have e3 : ah ([a] ++ T) 0 = ah [a] 0 := rfl
    have e4 : frac ([a] ++ T) 1 = frac ([] ++ T) 0 := rfl
    have e5 : frac [a] 1 = frac [] 0 := rfl
    rw [e1, e2, e3, e4, e5, frac_bk hT [], hc.2.1]
    rfl
  | a :: b :: s =>
    have e4 : frac (a :: b :: s ++ T) 1 = frac (b :: s ++ T) 0 := rfl
    have e5 : frac (a :: b :: s) 1 = frac (b :: s) 0 := rfl
    rw [e4, e5, frac_bk hT (b :: s)]
    rfl
theorem num1_bk (hT : Bk T) (s : List Int) : num1 (s ++ T) = num1 s ++ T := by
  unfold num1
  rw [sgn_bk hT s]
  cases s with
  | nil => rw [if_neg (by decide), if_neg (by decide)]
  | cons a s => split <;> rfl
theorem num2_bk (hT : Bk T) (s : List Int) : num2 (s ++ T) = num2 s ++ T := by unfold num2; rw [num1_bk hT, cnt_bk hT]
theorem num3_bk (hT : Bk T) (s : List Int) : num3 (s ++ T) = num3 s ++ T := by
  unfold num3
  rw [num2_bk hT, frac_bk hT]
  split
  · rename_i h
    cases hn : num2 s with
    | nil => rw [hn] at h; exact absurd h (by decide)
    | cons a q => rw [dp_app]; exact cnt_bk hT q
  · rfl
theorem num4_bk (hT : Bk T) (s : List Int) : num4 (s ++ T) = num4 s ++ T := by
  unfold num4
  rw [num3_bk hT, expo_bk hT]
  split
  · rename_i h
    have hd : ∀ (q : List Int), dp (expo q) (q ++ T) = dp (expo q) q ++ T := fun q => by
      unfold dp
      rw [List.drop_append_of_le_length]
      unfold expo
      split
      · rename_i h0
        split
        · split
          · rename_i h2
            have := len_of_digit h2
            omega
          · omega
        · split
          · rename_i h2
            have := len_of_digit h2
            omega
          · omega
      · omega
    rw [hd, cnt_bk hT]
  · rfl
theorem num2_le (s : List Int) : (num2 s).length ≤ s.length := by
  unfold num2 num1
  split
  · exact Nat.le_trans (cnt_suf _).length_le (by rw [dp_len]; omega)
  · exact (cnt_suf _).length_le
theorem plain_bk (hT : Bk T) (s : List Int) : plainT (s ++ T) = plainT s := by
  have h2 := num2_bk hT s
  have h3 := num3_bk hT s
  have hl := num2_le s
  have hw : numW (s ++ T) = numW s := by unfold numW; rw [h2, h3, frac_bk hT, expo_bk hT]
  have ht : (s ++ T).take ((s ++ T).length - (num2 (s ++ T)).length) = s.take (s.length - (num2 s).length) := by
    rw [h2, List.length_append, List.length_append, show s.length + T.length - ((num2 s).length + T.length) = s.length - (num2 s).length by omega, List.take_append_of_le_length (by omega)]
  unfold plainT
  rw [hw, ht, sgn_bk hT]
theorem number_bk (hT : Bk T) {s r' : List Int} (h : (numberT (s ++ [32])).2 = r' ++ [32]) : numberT (s ++ T) = ((numberT (s ++ [32])).1, r' ++ T) := by
  have h4 := num4_bk hT s
  have h4' := num4_bk Bk.blank s
  have hp := plain_bk hT s
  have hp' := plain_bk Bk.blank s
  unfold numberT at h ⊢
  rw [h4', hp'] at h ⊢
  rw [h4, hp, nbg_bk hT (num4 s), pre_bk hT [37] (num4 s) (by intro x hx; simp at hx; omega)]
  by_cases c1 : nbg (num4 s ++ [32]) 0 = true
  · rw [if_pos c1] at h ⊢
    rw [if_pos c1]
    have hn := nm_bk hT _ (num4 s) r' (Nat.le_refl _) h
    rw [hn]
  · rw [if_neg c1] at h ⊢
    rw [if_neg c1]
    by_cases c2 : pre [37] (num4 s ++ [32]) = true
    · rw [if_pos c2] at h ⊢
      rw [if_pos c2]
      cases hq : num4 s with
      | nil => rw [hq] at c2; exact absurd c2 (by decide)
      | cons a q =>
        rw [hq] at h
        have : q = r' := snoc_inj h
        subst this
        rfl
    · rw [if_neg c2] at h ⊢
      rw [if_neg c2]
      have : num4 s = r' := snoc_inj h
      rw [this]
end
end Go.Proofs.YtfggpenfdfklkaaGreat
