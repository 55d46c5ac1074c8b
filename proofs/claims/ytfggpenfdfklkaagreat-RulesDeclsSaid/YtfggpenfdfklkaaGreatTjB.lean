
import Derived.Test.YtfggpenfdfklkaaGreatTjA
namespace Go.Proofs.YtfggpenfdfklkaaGreat
open Go.RowKit
section
variable {T : List Int}
theorem qt_bk (hT : Bk T) (q : Int) (hq : q = 34 ∨ q = 39) : ∀ (m : Nat) (s r' : List Int), s.length ≤ m → (qt q (s ++ [32])).2.2 = r' ++ [32] → qt q (s ++ T) = ((qt q (s ++ [32])).1, (qt q (s ++ [32])).2.1, r' ++ T)
  | _, [], r', _, h => by
    have e : (qt q ([] ++ [32])).2.2 = [] := by rcases hq with rfl | rfl <;> decide +kernel
    rw [e] at h
    exact absurd h.symm snoc_ne
  | 0, a :: s, _, h, _ => by simp at h
  | m + 1, a :: s, r', hl, h => by
    have n1 : ¬ (a :: s ++ [32]).isEmpty = true := by simp
    have n2 : ¬ (a :: s ++ T).isEmpty = true := by simp
    have a1 : ah (a :: s ++ [32]) 0 = a := rfl
    have a2 : ah (a :: s ++ T) 0 = a := rfl
    rw [qt.eq_def q (a :: s ++ [32])] at h ⊢
    rw [qt.eq_def q (a :: s ++ T)]
    rw [dif_neg n1, a1] at h
    rw [dif_neg n1, dif_neg n2, a1, a2]
    by_cases c1 : a = q
    · rw [if_pos c1] at h ⊢
      rw [if_pos c1]
      have : s = r' := snoc_inj h
      subst this
      rfl
    rw [if_neg c1] at h ⊢
    rw [if_neg c1]
    by_cases c2 : a = 10
    · rw [if_pos c2] at h ⊢
      rw [if_pos c2]
      have : a :: s = r' := snoc_inj h
      subst this
      rfl
    rw [if_neg c2] at h ⊢
    rw [if_neg c2]
    by_cases c3 : a ≠ 92
    · rw [if_pos c3] at h ⊢
      rw [if_pos c3]
      rw [dp_app] at h
      rw [dp_app, dp_app]
      simp only at h ⊢
      rw [qt_bk hT q hq m s r' (by simpa using hl) h]
    rw [if_neg c3] at h ⊢
    rw [if_neg c3]
    have l1 : ¬ (a :: s ++ [32]).length ≤ 1 := by simp
    rw [if_neg l1] at h ⊢
    cases s with
    | nil =>
      have ea : a = 92 := by simpa using c3
      subst ea
      rw [if_pos (show esc ([92] ++ [32]) 0 = true by decide)] at h
      have e : (qt q (escT (dp 1 ([92] ++ [32]))).2).2.2 = [] := by rcases hq with rfl | rfl <;> decide +kernel
      rw [e] at h
      exact absurd h.symm snoc_ne
    | cons b s =>
      have l2 : ¬ (a :: b :: s ++ T).length ≤ 1 := by simp
      rw [if_neg l2]
      by_cases ce : esc (a :: b :: s ++ [32]) 0 = true
      · rw [if_pos ce] at h ⊢
        rw [if_pos (show esc (a :: b :: s ++ T) 0 = true by rw [esc_bk hT]; exact ce)]
        rw [dp_app] at h
        rw [dp_app, dp_app]
        simp only at h
        rcases suf_snoc (escT_suf (b :: s ++ [32])) with hx | ⟨p, hp, hps⟩
        · rw [hx] at h
          have e0 : (qt q []).2.2 = [] := by rw [qt, dif_pos (by rfl)]
          rw [e0] at h
          exact absurd h.symm snoc_ne
        · have h3 := escT_bk hT hp
          rw [hp] at h
          rw [h3, hp]
          simp only
          rw [qt_bk hT q hq m p r' (by have := hps.length_le; simp at hl this; omega) h]
      · rw [if_neg ce] at h ⊢
        rw [if_neg (show ¬ esc (a :: b :: s ++ T) 0 = true by rw [esc_bk hT]; exact ce)]
        exact qt_bk hT q hq m s r' (by simp at hl; omega) h
theorem badT_bk (hT : Bk T) : ∀ (m : Nat) (s r' : List Int), s.length ≤ m → badT (s ++ [32]) = r' ++ [32] → badT (s ++ T) = r' ++ T
  | _, [], r', _, h => by
    have e : badT ([] ++ [32]) = [] := by decide +kernel
    rw [e] at h
    exact absurd h.symm snoc_ne
  | 0, a :: s, _, h, _ => by simp at h
  | m + 1, a :: s, r', hl, h => by
    have n1 : ¬ (a :: s ++ [32]).isEmpty = true := by simp
    have n2 : ¬ (a :: s ++ T).isEmpty = true := by simp
    have a1 : ah (a :: s ++ [32]) 0 = a := rfl
    have a2 : ah (a :: s ++ T) 0 = a := rfl
    rw [badT.eq_def (a :: s ++ [32])] at h
    rw [badT.eq_def (a :: s ++ T)]
    rw [dif_neg n1, a1] at h
    rw [dif_neg n2, a2]
    by_cases c1 : a = 41
    · rw [if_pos c1] at h ⊢
      have : s = r' := snoc_inj h
      subst this
      rfl
    rw [if_neg c1] at h ⊢
    by_cases ce : esc (a :: s ++ [32]) 0 = true
    · rw [if_pos ce] at h
      rw [if_pos (show esc (a :: s ++ T) 0 = true by rw [esc_bk hT]; exact ce)]
      rw [dp_app] at h ⊢
      rcases suf_snoc (escT_suf (s ++ [32])) with hx | ⟨p, hp, hps⟩
      · rw [hx] at h
        have e0 : badT [] = [] := by rw [badT, dif_pos (by rfl)]
        rw [e0] at h
        exact absurd h.symm snoc_ne
      · have h3 := escT_bk hT hp
        rw [hp] at h
        rw [h3]
        exact badT_bk hT m p r' (by have := hps.length_le; simp at hl; omega) h
    · rw [if_neg ce] at h
      rw [if_neg (show ¬ esc (a :: s ++ T) 0 = true by rw [esc_bk hT]; exact ce)]
      exact badT_bk hT m s r' (by simpa using hl) h
theorem wh_bk : ∀ (s r' : List Int), wh (s ++ [32]) = r' ++ [32] → wh (s ++ T) = r' ++ T ∧ ∃ a t, r' = a :: t ∧ sWhite a = false
  | [], r', h => absurd h (by rw [show wh ([] ++ [32]) = [] by decide]; exact fun e => snoc_ne e.symm)
  | a :: s, r', h => by
    by_cases c : sWhite a = true
    · rw [wh_white (r := a :: s ++ [32]) (show sWhite (ah (a :: s ++ [32]) 0) = true from c), dp_app] at h
      rw [wh_white (r := a :: s ++ T) (show sWhite (ah (a :: s ++ T) 0) = true from c), dp_app]
      exact wh_bk s r' h
    · have c : sWhite a = false := by simpa using c
      rw [wh_else (r := a :: s ++ [32]) (show sWhite (ah (a :: s ++ [32]) 0) = false from c)] at h
      rw [wh_else (r := a :: s ++ T) (show sWhite (ah (a :: s ++ T) 0) = false from c)]
      have : a :: s = r' := snoc_inj h
      subst this
      exact ⟨rfl, a, s, rfl, c⟩
theorem adr_bk (hT : Bk T) : ∀ (m : Nat) (s r' : List Int), s.length ≤ m → (adr (s ++ [32])).2.2 = r' ++ [32] → adr (s ++ T) = ((adr (s ++ [32])).1, (adr (s ++ [32])).2.1, r' ++ T)
  | _, [], r', _, h => by
    have e : (adr ([] ++ [32])).2.2 = [] := by decide +kernel
    rw [e] at h
    exact absurd h.symm snoc_ne
  | 0, a :: s, _, h, _ => by simp at h
  | m + 1, a :: s, r', hl, h => by
    have n1 : ¬ (a :: s ++ [32]).isEmpty = true := by simp
    have n2 : ¬ (a :: s ++ T).isEmpty = true := by simp
    have a1 : ah (a :: s ++ [32]) 0 = a := rfl
    have a2 : ah (a :: s ++ T) 0 = a := rfl
    rw [adr.eq_def (a :: s ++ [32])] at h ⊢
    rw [adr.eq_def (a :: s ++ T)]
    rw [dif_neg n1, a1] at h
    rw [dif_neg n1, dif_neg n2, a1, a2]
    by_cases c1 : a = 41
    · rw [if_pos c1] at h ⊢
      rw [if_pos c1]
      have : s = r' := snoc_inj h
      subst this
      rfl
    rw [if_neg c1] at h ⊢
    rw [if_neg c1]
    by_cases ce : esc (a :: s ++ [32]) 0 = true
    · rw [if_pos ce] at h ⊢
      rw [if_pos (show esc (a :: s ++ T) 0 = true by rw [esc_bk hT]; exact ce)]
      rw [dp_app] at h
      rw [dp_app, dp_app]
      simp only at h
      rcases suf_snoc (escT_suf (s ++ [32])) with hx | ⟨p, hp, hps⟩
      · rw [hx] at h
        have e0 : (adr []).2.2 = [] := by rw [adr, dif_pos (by rfl)]
        rw [e0] at h
        exact absurd h.symm snoc_ne
      · have h3 := escT_bk hT hp
        rw [hp] at h
        rw [h3, hp]
        simp only
        rw [adr_bk hT m p r' (by have := hps.length_le; simp at hl; omega) h]
    rw [if_neg ce] at h ⊢
    rw [if_neg (show ¬ esc (a :: s ++ T) 0 = true by rw [esc_bk hT]; exact ce)]
    by_cases cw : sWhite a = true
    · rw [if_pos cw] at h ⊢
      rw [if_pos cw]
      rcases suf_snoc (wh_suf (a :: s ++ [32])) with hx | ⟨p, hp, hps⟩
      · rw [hx, if_pos (by rfl)] at h
        exact absurd h.symm snoc_ne
      · obtain ⟨hw, b, t, rfl, hb⟩ := wh_bk _ _ hp
        rw [hp] at h ⊢
        rw [hw]
        have m1 : ¬ (b :: t ++ [32]).isEmpty = true := by simp
        have m2 : ¬ (b :: t ++ T).isEmpty = true := by simp
        rw [if_neg m1] at h ⊢
        rw [if_neg m2]
        by_cases c4 : b = 41
        · rw [if_pos (show ah (b :: t ++ [32]) 0 = 41 from c4)] at h ⊢
          rw [if_pos (show ah (b :: t ++ T) 0 = 41 from c4)]
          have : t = r' := snoc_inj h
          subst this
          rfl
        · rw [if_neg (show ¬ ah (b :: t ++ [32]) 0 = 41 from c4)] at h ⊢
          rw [if_neg (show ¬ ah (b :: t ++ T) 0 = 41 from c4)]
          simp only at h ⊢
          rw [badT_bk hT _ _ r' (Nat.le_refl _) h]
    rw [if_neg cw] at h ⊢
    rw [if_neg cw]
    by_cases cs : spoil a = true
    · rw [if_pos cs] at h ⊢
      rw [if_pos cs]
      simp only at h ⊢
      rw [badT_bk hT _ _ r' (Nat.le_refl _) h]
    rw [if_neg cs] at h ⊢
    rw [if_neg cs]
    rw [dp_app] at h
    rw [dp_app, dp_app]
    simp only at h ⊢
    rw [adr_bk hT m s r' (by simpa using hl) h]
end
end Go.Proofs.YtfggpenfdfklkaaGreat
