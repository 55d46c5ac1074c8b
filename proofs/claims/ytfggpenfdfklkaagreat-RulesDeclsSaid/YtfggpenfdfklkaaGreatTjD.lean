
import Derived.Test.YtfggpenfdfklkaaGreatTjC
namespace Go.Proofs.YtfggpenfdfklkaaGreat
open Go.RowKit
section
variable {T : List Int}
theorem quoted_bk (hT : Bk T) {a : Int} {s r' : List Int} (ha : a = 34 ∨ a = 39) (h : (quotedT (a :: s ++ [32])).2 = r' ++ [32]) : quotedT (a :: s ++ T) = ((quotedT (a :: s ++ [32])).1, r' ++ T) := by
  unfold quotedT at h ⊢
  have e1 : ah (a :: s ++ [32]) 0 = a := rfl
  have e2 : ah (a :: s ++ T) 0 = a := rfl
  rw [e1, dp_app] at h
  rw [e1, e2, dp_app, dp_app]
  have := qt_bk hT a ha _ s r' (Nat.le_refl _) h
  rw [this]
  rfl
theorem hash_bk (hT : Bk T) {a : Int} {s r' : List Int} (h : (hashT (a :: s ++ [32])).2 = r' ++ [32]) : hashT (a :: s ++ T) = ((hashT (a :: s ++ [32])).1, r' ++ T) := by
  have hc := cls0 hT.ah0
  have e1 : esc (a :: s ++ [32]) 1 = esc (s ++ [32]) 0 := rfl
  have e2 : esc (a :: s ++ T) 1 = esc (s ++ T) 0 := rfl
  have e3 : sName (ah (a :: s ++ T) 1) = sName (ah (a :: s ++ [32]) 1) := by
    cases s with
    | nil =>
      show sName (ah T 0) = sName 32
      rw [hc.1]; decide
    | cons b s => rfl
  unfold hashT at h ⊢
  rw [e2, e3, esc_bk hT s, ← e1]
  by_cases c : (sName (ah (a :: s ++ [32]) 1) || esc (a :: s ++ [32]) 1) = true
  · rw [if_pos c] at h ⊢
    rw [if_pos c]
    rw [dp_app] at h
    rw [dp_app, dp_app, nbg_bk hT s, nm_bk hT _ s r' (Nat.le_refl _) h]
  · rw [if_neg c] at h ⊢
    rw [if_neg c]
    have : s = r' := snoc_inj h
    subst this
    rfl
theorem at_bk (hT : Bk T) {a : Int} {s r' : List Int} (h : (atT (a :: s ++ [32])).2 = r' ++ [32]) : atT (a :: s ++ T) = ((atT (a :: s ++ [32])).1, r' ++ T) := by
  have e1 : nbg (a :: s ++ [32]) 1 = nbg (s ++ [32]) 0 := rfl
  have e2 : nbg (a :: s ++ T) 1 = nbg (s ++ T) 0 := rfl
  unfold atT at h ⊢
  rw [e2, nbg_bk hT s, ← e1]
  by_cases c : nbg (a :: s ++ [32]) 1 = true
  · rw [if_pos c] at h ⊢
    rw [if_pos c]
    rw [dp_app] at h
    rw [dp_app, dp_app, nm_bk hT _ s r' (Nat.le_refl _) h]
  · rw [if_neg c] at h ⊢
    rw [if_neg c]
    have : s = r' := snoc_inj h
    subst this
    rfl
theorem url_bk (hT : Bk T) {n : ByteArray} {s r' : List Int} (h : (urlT n (40 :: s ++ [32])).2 = r' ++ [32]) : urlT n (40 :: s ++ T) = ((urlT n (40 :: s ++ [32])).1, r' ++ T) := by
  unfold urlT at h ⊢
  rw [dp_app] at h
  rw [dp_app, dp_app]
  rcases suf_snoc (wh_suf (s ++ [32])) with hx | ⟨p, hp, hps⟩
  · rw [hx] at h
    have e : ((if ah ([] : List Int) 0 = 34 ∨ ah ([] : List Int) 0 = 39 then (({ kind := 2, text := n } : Tok), dp ((s ++ [32]).length - ([] : List Int).length - 1) (s ++ [32])) else (tokQ 7 8 (adr []), (adr []).2.2))).2 = [] := by
      rw [if_neg (by decide)]
      show (adr []).2.2 = []
      rw [adr, dif_pos (by rfl)]
    rw [e] at h
    exact absurd h.symm snoc_ne
  · obtain ⟨hw, b, t, rfl, hb⟩ := wh_bk _ _ hp
    rw [hp] at h ⊢
    rw [hw]
    have a1 : ah (b :: t ++ [32]) 0 = b := rfl
    have a2 : ah (b :: t ++ T) 0 = b := rfl
    rw [a1] at h ⊢
    rw [a2]
    by_cases c : b = 34 ∨ b = 39
    · rw [if_pos c] at h ⊢
      rw [if_pos c]
      have hl := hps.length_le
      have k1 : (s ++ [32]).length - (b :: t ++ [32]).length - 1 = s.length - (b :: t).length - 1 := by simp only [List.length_append]; omega
      have k2 : (s ++ T).length - (b :: t ++ T).length - 1 = s.length - (b :: t).length - 1 := by simp only [List.length_append]; omega
      rw [k1] at h
      rw [k1, k2]
      have d1 : dp (s.length - (b :: t).length - 1) (s ++ [32]) = dp (s.length - (b :: t).length - 1) s ++ [32] := by unfold dp; rw [List.drop_append_of_le_length (by omega)]
      have d2 : dp (s.length - (b :: t).length - 1) (s ++ T) = dp (s.length - (b :: t).length - 1) s ++ T := by unfold dp; rw [List.drop_append_of_le_length (by omega)]
      rw [d1] at h
      rw [d2, d1]
      have : dp (s.length - (b :: t).length - 1) s = r' := snoc_inj h
      rw [this]
    · rw [if_neg c] at h ⊢
      rw [if_neg c]
      simp only at h
      rw [adr_bk hT _ (b :: t) r' (Nat.le_refl _) h]
      rfl
theorem ident_bk (hT : Bk T) {s r' : List Int} (h : (identT (s ++ [32])).2 = r' ++ [32]) : identT (s ++ T) = ((identT (s ++ [32])).1, r' ++ T) := by
  have hc := cls0 hT.ah0
  have key : ∀ q, (nm (s ++ [32])).2 = q ++ [32] → nm (s ++ T) = ((nm (s ++ [32])).1, q ++ T) := fun q hq => nm_bk hT _ s q (Nat.le_refl _) hq
  unfold identT at h ⊢
  rcases suf_snoc (nm_suf' (s ++ [32])) with hx | ⟨q, hq, _⟩
  · rw [hx] at h
    rw [if_pos (by decide)] at h
    exact absurd h.symm snoc_ne
  · rw [key q hq]
    rw [hq] at h ⊢
    simp only
    cases q with
    | nil =>
      have e1 : ah ([] ++ [32]) 0 = 32 := rfl
      have e3 : ah ([] ++ T) 0 ≠ 40 := hc.2.2.2.2.2.2.2.2.2.1
      rw [e1, if_pos (by decide)] at h
      rw [if_pos e3, e1, if_pos (by decide)]
      have : ([] : List Int) = r' := snoc_inj h
      subst this
      rfl
    | cons b q =>
      have e1 : ah (b :: q ++ [32]) 0 = b := rfl
      have e2 : ah (b :: q ++ T) 0 = b := rfl
      rw [e1] at h ⊢
      rw [e2]
      by_cases c : b ≠ 40
      · rw [if_pos c] at h ⊢
        rw [if_pos c]
        have : b :: q = r' := snoc_inj h
        subst this
        rfl
      · rw [if_neg c] at h ⊢
        rw [if_neg c]
        have hb : b = 40 := by simpa using c
        subst hb
        by_cases cu : ((lowS (runesBytes (nm (s ++ [32])).1)).toList == [117, 114, 108]) = true
        · rw [if_pos cu] at h ⊢
          rw [if_pos cu]
          exact url_bk hT h
        · rw [if_neg cu] at h ⊢
          rw [if_neg cu]
          have : q = r' := snoc_inj h
          subst this
          rfl
theorem pre_at {l r : List Int} (h : pre l r = true) : l.length ≤ r.length := (List.isPrefixOf_iff_prefix.1 h).length_le
theorem tok_bk (hT : Bk T) {a : Int} {s r' : List Int} (h : (tokT (a :: s ++ [32])).2 = r' ++ [32]) : tokT (a :: s ++ T) = ((tokT (a :: s ++ [32])).1, r' ++ T) := by
  have a1 : ah (a :: s ++ [32]) 0 = a := rfl
  have a2 : ah (a :: s ++ T) 0 = a := rfl
  have n1 := (numB_bk hT (a :: s)).trans (numB_bk Bk.blank (a :: s)).symm
  have p1 := pre_bk hT [45, 45, 62] (a :: s) (by intro x hx; simp at hx; omega)
  have p2 := pre_bk hT [60, 33, 45, 45] (a :: s) (by intro x hx; simp at hx; omega)
  have b1 := nbg_bk hT (a :: s)
  unfold tokT at h ⊢
  rw [a1] at h ⊢
  rw [a2, n1, p1, p2, b1]
  by_cases c1 : sWhite a = true
  · rw [if_pos c1] at h ⊢
    rw [if_pos c1]
    simp only at h ⊢
    rw [(wh_bk _ _ h).1]
  rw [if_neg c1] at h ⊢
  rw [if_neg c1]
  by_cases c2 : a = 34 ∨ a = 39
  · rw [if_pos c2] at h ⊢
    rw [if_pos c2]
    exact quoted_bk hT c2 h
  rw [if_neg c2] at h ⊢
  rw [if_neg c2]
  by_cases c3 : a = 35
  · rw [if_pos c3] at h ⊢
    rw [if_pos c3]
    exact hash_bk hT h
  rw [if_neg c3] at h ⊢
  rw [if_neg c3]
  by_cases c4 : a = 64
  · rw [if_pos c4] at h ⊢
    rw [if_pos c4]
    exact at_bk hT h
  rw [if_neg c4] at h ⊢
  rw [if_neg c4]
  by_cases c5 : numB (a :: s ++ [32]) = true
  · rw [if_pos c5] at h ⊢
    rw [if_pos c5]
    exact number_bk hT h
  rw [if_neg c5] at h ⊢
  rw [if_neg c5]
  by_cases c6 : pre [45, 45, 62] (a :: s ++ [32]) = true
  · rw [if_pos c6] at h ⊢
    rw [if_pos c6]
    simp only at h ⊢
    match s, c6, h with
    | b :: c :: s, _, h =>
      have : s = r' := snoc_inj h
      subst this
      rfl
    | [b], c6, _ => simp [pre] at c6
    | [], c6, _ => simp [pre] at c6
  rw [if_neg c6] at h ⊢
  rw [if_neg c6]
  by_cases c7 : pre [60, 33, 45, 45] (a :: s ++ [32]) = true
  · rw [if_pos c7] at h ⊢
    rw [if_pos c7]
    simp only at h ⊢
    match s, c7, h with
    | b :: c :: d :: s, _, h =>
      have : s = r' := snoc_inj h
      subst this
      rfl
    | [b, c], c7, _ => simp [pre] at c7
    | [b], c7, _ => simp [pre] at c7
    | [], c7, _ => simp [pre] at c7
  rw [if_neg c7] at h ⊢
  rw [if_neg c7]
  by_cases c8 : nbg (a :: s ++ [32]) 0 = true
  · rw [if_pos c8] at h ⊢
    rw [if_pos c8]
    exact ident_bk hT h
  rw [if_neg c8] at h ⊢
  rw [if_neg c8]
  have : s = r' := snoc_inj h
  subst this
  rfl
end
end Go.Proofs.YtfggpenfdfklkaaGreat
