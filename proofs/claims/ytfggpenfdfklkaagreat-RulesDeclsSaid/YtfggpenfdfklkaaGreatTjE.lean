
import Derived.Test.YtfggpenfdfklkaaGreatTjD
namespace Go.Proofs.YtfggpenfdfklkaaGreat
open Go.RowKit
section
variable {T : List Int}
theorem cmEnd_bk (hT : Bk T) : ∀ s r' : List Int, cmEnd (s ++ [32]) = r' ++ [32] → cmEnd (s ++ T) = r' ++ T
  | [], r', h => by
    have : cmEnd ([] ++ [32]) = [] := by decide +kernel
    rw [this] at h
    exact absurd h.symm snoc_ne
  | a :: t, r', h => by
    have p := pre_bk hT [42, 47] (a :: t) (by intro x hx; simp at hx; omega)
    by_cases c : pre [42, 47] (a :: t ++ [32]) = true
    · rw [cmEnd_yes c] at h
      rw [cmEnd_yes (p.trans c)]
      match t, c, h with
      | b :: t, _, h =>
        have : t = r' := snoc_inj h
        subst this
        rfl
      | [], c, _ => simp [pre] at c
    · have c' : pre [42, 47] (a :: t ++ [32]) = false := by simpa using c
      rw [cmEnd_no c'] at h
      rw [cmEnd_no (p.trans c')]
      exact cmEnd_bk hT t r' h
theorem cm_nil : cm [] = [] := rfl
theorem cm_bk (hT : Bk T) : ∀ (n : Nat) (s r' : List Int), s.length ≤ n → cm (s ++ [32]) = r' ++ [32] → cm (s ++ T) = r' ++ T := by
  intro n
  induction n with
  | zero =>
    intro s r' hn h
    have : s = [] := List.eq_nil_of_length_eq_zero (by omega)
    subst this
    have p := pre_bk hT [47, 42] [] (by intro x hx; simp at hx; omega)
    have c' : pre [47, 42] ([] ++ [32]) = false := by decide +kernel
    rw [cm_no c'] at h
    rw [cm_no (p.trans c'), snoc_inj h]
  | succ n ih =>
    intro s r' hn h
    have p := pre_bk hT [47, 42] s (by intro x hx; simp at hx; omega)
    by_cases c : pre [47, 42] (s ++ [32]) = true
    · rw [cm_yes c] at h
      rw [cm_yes (p.trans c)]
      match s, c, hn, h with
      | a :: b :: t, _, hn, h =>
        have h : cm (cmEnd (t ++ [32])) = r' ++ [32] := h
        show cm (cmEnd (t ++ T)) = r' ++ T
        rcases suf_snoc (cmEnd_suf (t ++ [32])) with hx | ⟨q, hq, hs⟩
        · rw [hx, cm_nil] at h
          exact absurd h.symm snoc_ne
        · rw [hq] at h
          rw [cmEnd_bk hT t q hq]
          have := hs.length_le
          simp at hn
          exact ih q r' (by omega) h
      | [b], c, _, _ => simp [pre] at c
      | [], c, _, _ => simp [pre] at c
    · have c' : pre [47, 42] (s ++ [32]) = false := by simpa using c
      rw [cm_no c'] at h
      rw [cm_no (p.trans c'), snoc_inj h]
theorem toks_white {Y : List Int} (hY : sWhite (ah Y 0) = false) : toksC (32 :: Y) = { kind := 13 } :: toks Y := by
  have e : wh Y = Y := wh_else hY
  have e0 : sWhite (ah (32 :: Y) 0) = true := by show sWhite 32 = true; decide
  have e2 : tokT (32 :: Y) = ({ kind := 13 }, Y) := by
    rw [tokT, if_pos e0, wh_white e0]
    show (_, wh Y) = _
    rw [e]
  unfold toksC
  rw [if_neg (by simp), e2]
theorem toksC_cons (a : Int) (s : List Int) : toksC (a :: s) = (tokT (a :: s)).1 :: toks (tokT (a :: s)).2 := by
  unfold toksC
  rw [if_neg (by simp)]
theorem tokT_suf (r : List Int) : (tokT r).2 <:+ r := by
  unfold tokT
  split
  · exact wh_suf _
  split
  · exact (qt_suf _ _).trans (dp_suf _ _)
  split
  · unfold hashT
    split
    · exact (nm_suf' _).trans (dp_suf _ _)
    · exact dp_suf _ _
  split
  · unfold atT
    split
    · exact (nm_suf' _).trans (dp_suf _ _)
    · exact dp_suf _ _
  split
  · have e4 : num4 r <:+ r := by
      have e4 : num4 r <:+ num3 r := by
        unfold num4
        split
        · exact (cnt_suf _).trans (dp_suf _ _)
        · exact List.suffix_refl _
      have e3 : num3 r <:+ num2 r := by
        unfold num3
        split
        · exact (cnt_suf _).trans (dp_suf _ _)
        · exact List.suffix_refl _
      have e1 : num1 r <:+ r := by
        unfold num1
        split
        · exact dp_suf _ _
        · exact List.suffix_refl _
      exact e4.trans (e3.trans ((cnt_suf _).trans e1))
    unfold numberT
    split
    · exact (nm_suf' _).trans e4
    split
    · exact (dp_suf _ _).trans e4
    · exact e4
  split
  · exact dp_suf _ _
  split
  · exact dp_suf _ _
  split
  · unfold identT
    split
    · exact nm_suf' _
    split
    · exact (urlT_suf _ _).trans (nm_suf' _)
    · exact (dp_suf _ _).trans (nm_suf' _)
  · exact dp_suf _ _
theorem tokT_rest (a : Int) (s : List Int) : (tokT (a :: s)).2 <:+ s := by
  have h1 := tokT_suf (a :: s)
  have h2 := tokT_lt (r := a :: s) (by simp)
  obtain ⟨t, ht⟩ := h1
  cases t with
  | nil => rw [List.nil_append] at ht; rw [ht] at h2; exact absurd h2 (Nat.lt_irrefl _)
  | cons b t => exact ⟨t, by simpa using (List.cons.inj ht).2⟩
theorem joins {Y : List Int} (hY : sWhite (ah Y 0) = false) : ∀ (n : Nat) (r : List Int), r.length ≤ n → (toks (r ++ [32])).length = (toks r).length + 1 →
    toks (r ++ 32 :: Y) = toks r ++ { kind := 13 } :: toks Y := by
  have hT : Bk (32 :: Y) := .inr ⟨Y, rfl⟩
  have hN : Bk ([] : List Int) := .inl rfl
  intro n
  induction n with
  | zero =>
    intro r hn _
    have : r = [] := List.eq_nil_of_length_eq_zero (by omega)
    subst this
    have c : pre [47, 42] ([] ++ 32 :: Y) = false := rfl
    rw [toks_eq, cm_no c]
    show toksC (32 :: Y) = _
    rw [toks_white hY, toks_eq []]
    rfl
  | succ n ih =>
    intro r hn h
    rcases suf_snoc (cm_suf (r ++ [32])) with hx | ⟨q, hq, hs⟩
    · rw [toks_eq, hx] at h
      simp [toksC] at h
    · have h1 := cm_bk hT _ r q (Nat.le_refl _) hq
      have h2 : cm r = q := by simpa using cm_bk hN _ r q (Nat.le_refl _) hq
      rw [toks_eq (r ++ [32]), toks_eq r, hq, h2] at h
      rw [toks_eq (r ++ 32 :: Y), toks_eq r, h1, h2]
      cases q with
      | nil =>
        show toksC (32 :: Y) = _
        rw [toks_white hY]
        rfl
      | cons a s =>
        have hl := hs.length_le
        simp at hl
        have ea : a :: s ++ [32] = a :: (s ++ [32]) := rfl
        rcases suf_snoc (tokT_rest a (s ++ [32])) with hx | ⟨p, hp, hps⟩
        · rw [ea, toksC_cons, hx, toksC_cons, toks_eq []] at h
          simp [toksC, cm_nil] at h
        · have hpl := hps.length_le
          have k1 : tokT (a :: (s ++ 32 :: Y)) = ((tokT (a :: (s ++ [32]))).1, p ++ 32 :: Y) := tok_bk hT hp
          have k2 : tokT (a :: s) = ((tokT (a :: (s ++ [32]))).1, p) := by
            have := tok_bk hN (a := a) (s := s) (r' := p) hp
            simpa using this
          rw [ea, toksC_cons, hp, toksC_cons, k2] at h
          show toksC (a :: (s ++ 32 :: Y)) = _
          rw [toksC_cons, k1, toksC_cons, k2]
          simp only [List.length_cons] at h
          show _ :: toks (p ++ 32 :: Y) = _ :: _
          rw [ih p (by omega) (by omega)]
          rfl
theorem joins_white {r : List Int} (h : (toks (r ++ [32])).length = (toks r).length + 1) : toks (r ++ [32]) = toks r ++ [{ kind := 13 }] := by
  have := joins (Y := []) (by decide) _ r (Nat.le_refl _) h
  rw [this, toks_eq []]
  rfl
end
end Go.Proofs.YtfggpenfdfklkaaGreat
