
import Derived.Test.YtfggpenfdfklkaaGreatTkR
namespace Go.Proofs.YtfggpenfdfklkaaGreat
open Go.RowKit
/-! TokenJoins, plain: what stands behind a blank changes nothing ahead of it. -/
/-- What may stand where a blank stood: that blank with more behind it, or the end. -/
def Bk (T : List Int) : Prop := T = [] ∨ ∃ B, T = 32 :: B
theorem Bk.ah0 {T : List Int} (h : Bk T) : ah T 0 = -1 ∨ ah T 0 = 32 := by
  rcases h with rfl | ⟨B, rfl⟩
  · exact .inl rfl
  · exact .inr rfl
theorem ah_app {r T : List Int} {n : Nat} (h : n < r.length) : ah (r ++ T) n = ah r n := by
  unfold ah
  rw [List.getD_eq_getElem?_getD, List.getD_eq_getElem?_getD, List.getElem?_append_left h]
theorem ah_at (r T : List Int) : ah (r ++ T) r.length = ah T 0 := by
  unfold ah
  rw [List.getD_eq_getElem?_getD, List.getD_eq_getElem?_getD, List.getElem?_append_right (Nat.le_refl _), Nat.sub_self]
theorem cls0 {a : Int} (h : a = -1 ∨ a = 32) : sName a = false ∧ sDigit a = false ∧ sHexOk a = false ∧ sLetter a = false ∧ a ≠ 92 ∧ a ≠ 10 ∧ a ≠ 45 ∧ a ≠ 43 ∧ a ≠ 46 ∧ a ≠ 40 ∧ a ≠ 41 ∧ a ≠ 42 ∧ a ≠ 47 ∧ a ≠ 37 ∧ a ≠ 101 ∧ a ≠ 69 := by
  rcases h with rfl | rfl <;> decide
theorem dp_app (a : Int) (s T : List Int) : dp 1 (a :: s ++ T) = s ++ T := rfl
theorem suf_snoc {x s : List Int} (h : x <:+ s ++ [32]) : x = [] ∨ ∃ q, x = q ++ [32] ∧ q <:+ s := by
  rcases List.eq_nil_or_concat x with rfl | ⟨q, b, rfl⟩
  · exact .inl rfl
  · rw [List.concat_eq_append] at h ⊢
    obtain ⟨p, hp⟩ := h
    rw [← List.append_assoc] at hp
    have := List.append_inj' hp rfl
    simp at this
    exact .inr ⟨q, by rw [this.2], p, this.1⟩
theorem snoc_ne {q : List Int} : q ++ [32] ≠ ([] : List Int) := by simp
theorem snoc_inj {q q' : List Int} (h : q ++ [32] = q' ++ [32]) : q = q' := (List.append_inj' h rfl).1
section
variable {T : List Int}
theorem esc_bk (hT : Bk T) (r : List Int) : esc (r ++ T) 0 = esc (r ++ [32]) 0 := by
  have hc := cls0 hT.ah0
  match r with
  | [] =>
    have e1 : esc ([] ++ T) 0 = false := by unfold esc; rw [List.nil_append]; simp [hc.2.2.2.2.1]
    have e2 : esc ([] ++ [32]) 0 = false := by decide
    rw [e1, e2]
  | [a] =>
    have e1 : ah ([a] ++ T) 1 = ah T 0 := rfl
    have e2 : ah ([a] ++ [32]) 1 = 32 := rfl
    have e3 : ah ([a] ++ T) 0 = a := rfl
    have e4 : ah ([a] ++ [32]) 0 = a := rfl
    unfold esc
    rw [e1, e2, e3, e4]
    simp [hc.2.2.2.2.2.1]
  | a :: b :: r => rfl
theorem nbg_bk (hT : Bk T) (r : List Int) : nbg (r ++ T) 0 = nbg (r ++ [32]) 0 := by
  have hc := cls0 hT.ah0
  have hc2 := cls0 (a := 32) (.inr rfl)
  match r with
  | [] =>
    have e := esc_bk hT []
    unfold nbg
    rw [e]
    show (if ah T 0 = 45 then _ else sLetter (ah T 0) || _) = (if (32 : Int) = 45 then _ else sLetter 32 || _)
    rw [if_neg hc.2.2.2.2.2.2.1, if_neg (by decide), hc.2.2.2.1, hc2.2.2.2.1]
  | [a] =>
    have e0 := esc_bk hT [a]
    have e1 : ah ([a] ++ T) 1 = ah T 0 := rfl
    have e2 : ah ([a] ++ [32]) 1 = 32 := rfl
    have e3 : ah ([a] ++ T) 0 = a := rfl
    have e4 : ah ([a] ++ [32]) 0 = a := rfl
    have e5 : esc ([a] ++ T) 1 = false := by unfold esc; rw [e1]; simp [hc.2.2.2.2.1]
    have e6 : esc ([a] ++ [32]) 1 = false := by unfold esc; rw [e2]; simp
    unfold nbg
    rw [e0, e1, e2, e3, e4, e5, e6, hc.2.2.2.1, hc2.2.2.2.1]
    simp [hc.2.2.2.2.2.2.1]
  | [a, b] =>
    have e0 := esc_bk hT [a, b]
    have e1 := esc_bk hT [b]
    have e2 : esc ([a, b] ++ T) 1 = esc ([b] ++ T) 0 := rfl
    have e3 : esc ([a, b] ++ [32]) 1 = esc ([b] ++ [32]) 0 := rfl
    unfold nbg
    rw [e0, e2, e3, e1]
    rfl
  | a :: b :: c :: r => rfl
theorem hx_bk (hT : Bk T) : ∀ (k : Nat) (n : Int) (c : Nat) (s : List Int), ∃ q, q <:+ s ∧ hx k n c (s ++ [32]) = ((hx k n c (s ++ [32])).1, (hx k n c (s ++ [32])).2.1, q ++ [32]) ∧ hx k n c (s ++ T) = ((hx k n c (s ++ [32])).1, (hx k n c (s ++ [32])).2.1, q ++ T)
  | 0, n, c, s => ⟨s, List.suffix_refl _, rfl, rfl⟩
  | k + 1, n, c, [] => by
    have hc := cls0 hT.ah0
    refine ⟨[], List.suffix_refl _, ?_⟩
    have e1 : hx (k + 1) n c ([] ++ [32]) = (n, c, [32]) := by
      unfold hx
      rw [if_neg (by decide)]; rfl
    have e2 : hx (k + 1) n c ([] ++ T) = (n, c, T) := by
      unfold hx
      rw [List.nil_append, if_neg (by rw [hc.2.2.1]; decide)]
    rw [e1, e2]
    exact ⟨rfl, rfl⟩
  | k + 1, n, c, a :: s => by
    by_cases h : sHexOk a = true
    · have e1 : hx (k + 1) n c (a :: s ++ [32]) = hx k (n * 16 + sHex a) (c + 1) (s ++ [32]) := by
        conv => lhs; unfold hx
        rw [if_pos (show sHexOk (ah (a :: s ++ [32]) 0) = true from h)]; rfl
      have e2 : hx (k + 1) n c (a :: s ++ T) = hx k (n * 16 + sHex a) (c + 1) (s ++ T) := by
        conv => lhs; unfold hx
        rw [if_pos (show sHexOk (ah (a :: s ++ T) 0) = true from h)]; rfl
      obtain ⟨q, h1, h2, h3⟩ := hx_bk hT k (n * 16 + sHex a) (c + 1) s
      rw [e1, e2]
      exact ⟨q, h1.trans (List.suffix_cons _ _), h2, h3⟩
    · have e1 : hx (k + 1) n c (a :: s ++ [32]) = (n, c, a :: s ++ [32]) := by
        unfold hx
        rw [if_neg (show ¬ sHexOk (ah (a :: s ++ [32]) 0) = true from h)]
      have e2 : hx (k + 1) n c (a :: s ++ T) = (n, c, a :: s ++ T) := by
        unfold hx
        rw [if_neg (show ¬ sHexOk (ah (a :: s ++ T) 0) = true from h)]
      rw [e1, e2]
      exact ⟨a :: s, List.suffix_refl _, rfl, rfl⟩
theorem escT_bk (hT : Bk T) {s r' : List Int} (h : (escT (s ++ [32])).2 = r' ++ [32]) : escT (s ++ T) = ((escT (s ++ [32])).1, r' ++ T) := by
  cases s with
  | nil =>
    have e : (escT ([] ++ [32])).2 = [] := by decide +kernel
    rw [e] at h
    exact absurd h.symm snoc_ne
  | cons a s =>
    obtain ⟨q, _, h1, h2⟩ := hx_bk hT 6 0 0 (a :: s)
    have n1 : ¬ (a :: s ++ [32]).isEmpty = true := by simp
    have n2 : ¬ (a :: s ++ T).isEmpty = true := by simp
    unfold escT at h ⊢
    rw [if_neg n1] at h ⊢
    rw [if_neg n2, h2]
    rw [h1] at h ⊢
    simp only at h ⊢
    by_cases c0 : (hx 6 0 0 (a :: s ++ [32])).2.1 = 0
    · rw [if_pos c0] at h ⊢
      rw [if_pos c0]
      have : s = r' := snoc_inj h
      subst this
      rfl
    · rw [if_neg c0] at h ⊢
      rw [if_neg c0]
      simp only at h ⊢
      cases q with
      | nil => exact absurd h (by rw [if_pos (by decide)]; simp [dp])
      | cons b q =>
        by_cases cw : sWhite b = true
        · rw [if_pos (show sWhite (ah (b :: q ++ [32]) 0) = true from cw)] at h
          rw [if_pos (show sWhite (ah (b :: q ++ T) 0) = true from cw)]
          have : q = r' := snoc_inj h
          subst this
          rfl
        · rw [if_neg (show ¬ sWhite (ah (b :: q ++ [32]) 0) = true from cw)] at h
          rw [if_neg (show ¬ sWhite (ah (b :: q ++ T) 0) = true from cw)]
          have : b :: q = r' := snoc_inj h
          subst this
          rfl
theorem nm_bk (hT : Bk T) : ∀ (m : Nat) (s r' : List Int), s.length ≤ m → (nm (s ++ [32])).2 = r' ++ [32] → nm (s ++ T) = ((nm (s ++ [32])).1, r' ++ T)
  | _, [], r', _, h => by
    have hc := cls0 hT.ah0
    have e1 : nm ([] ++ [32]) = ([], [32]) := nm_else (by decide) (by decide)
    have e2 : nm ([] ++ T) = ([], T) := nm_else hc.1 (by rw [esc_bk hT]; decide)
    rw [e1] at h ⊢
    have : ([] : List Int) = r' := snoc_inj h
    subst this
    exact e2
  | 0, a :: s, _, h, _ => by simp at h
  | m + 1, a :: s, r', hl, h => by
    by_cases c : sName a = true
    · have e1 := nm_name (r := a :: s ++ [32]) (show sName (ah (a :: s ++ [32]) 0) = true from c)
      have e2 := nm_name (r := a :: s ++ T) (show sName (ah (a :: s ++ T) 0) = true from c)
      rw [dp_app] at e1 e2
      rw [e1] at h
      have := nm_bk hT m s r' (by simpa using hl) h
      rw [e1, e2, this]
      rfl
    · have c' : sName a = false := by simpa using c
      by_cases ce : esc (a :: s ++ [32]) 0 = true
      · have e1 := nm_esc (r := a :: s ++ [32]) (show sName (ah (a :: s ++ [32]) 0) = false from c') ce
        have e2 := nm_esc (r := a :: s ++ T) (show sName (ah (a :: s ++ T) 0) = false from c') (by rw [esc_bk hT]; exact ce)
        rw [dp_app] at e1 e2
        rw [e1] at h
        simp only at h
        rcases suf_snoc (escT_suf (s ++ [32])) with hq | ⟨q, hq, hqs⟩
        · rw [hq] at h
          have e0 : nm [] = ([], []) := nm_else (by decide) (by decide)
          rw [e0] at h
          exact absurd h.symm snoc_ne
        · have h3 := escT_bk hT hq
          rw [hq] at h
          have := nm_bk hT m q r' (by have := hqs.length_le; simp at hl; omega) h
          rw [e1, e2, h3, hq]
          simp only
          rw [this]
      · have ce' : esc (a :: s ++ [32]) 0 = false := by simpa using ce
        have e1 := nm_else (r := a :: s ++ [32]) (show sName (ah (a :: s ++ [32]) 0) = false from c') ce'
        have e2 := nm_else (r := a :: s ++ T) (show sName (ah (a :: s ++ T) 0) = false from c') (by rw [esc_bk hT]; exact ce')
        rw [e1] at h ⊢
        rw [e2]
        have : a :: s = r' := snoc_inj h
        subst this
        rfl
end
end Go.Proofs.YtfggpenfdfklkaaGreat
namespace Go.Proofs.YtfggpenfdfklkaaGreat
open Go.RowKit
section
variable {T : List Int}
theorem qt_bk (hT : Bk T) (q : Int) (hq : q = 34 ∨ q = 39) : ∀ (m : Nat) (s r' : List Int), s.length ≤ m → (qt q (s ++ [32])).2.2 = r' ++ [32] → qt q (s ++ T) = ((qt q (s ++ [32])).1, (qt q (s ++ [32])).2.1, r' ++ T)
  | _, [], r', _, h => by
    have e : (qt q ([] ++ [32])).2.2 = [] := by rcases hq with rfl | rfl <;> decide +kernel
    rw [e] at h
    exact absurd h.symm snoc_ne
  | 0, a :: s, _, h, _ => by simp at h
  | m + 1, a :: s, r', hl, h => by
    have n1 : ¬ (a :: s ++ [32]).isEmpty = true := by simp
    have n2 : ¬ (a :: s ++ T).isEmpty = true := by simp
    have a1 : ah (a :: s ++ [32]) 0 = a := rfl
    have a2 : ah (a :: s ++ T) 0 = a := rfl
    rw [qt.eq_def q (a :: s ++ [32])] at h ⊢
    rw [qt.eq_def q (a :: s ++ T)]
    rw [dif_neg n1, a1] at h
    rw [dif_neg n1, dif_neg n2, a1, a2]
    by_cases c1 : a = q
    · rw [if_pos c1] at h ⊢
      rw [if_pos c1]
      have : s = r' := snoc_inj h
      subst this
      rfl
    rw [if_neg c1] at h ⊢
    rw [if_neg c1]
    by_cases c2 : a = 10
    · rw [if_pos c2] at h ⊢
      rw [if_pos c2]
      have : a :: s = r' := snoc_inj h
      subst this
      rfl
    rw [if_neg c2] at h ⊢
    rw [if_neg c2]
    by_cases c3 : a ≠ 92
    · rw [if_pos c3] at h ⊢
      rw [if_pos c3]
      rw [dp_app] at h
      rw [dp_app, dp_app]
      simp only at h ⊢
      rw [qt_bk hT q hq m s r' (by simpa using hl) h]
    rw [if_neg c3] at h ⊢
    rw [if_neg c3]
    have l1 : ¬ (a :: s ++ [32]).length ≤ 1 := by simp
    rw [if_neg l1] at h ⊢
    cases s with
    | nil =>
      have ea : a = 92 := by simpa using c3
      subst ea
      rw [if_pos (show esc ([92] ++ [32]) 0 = true by decide)] at h
      have e : (qt q (escT (dp 1 ([92] ++ [32]))).2).2.2 = [] := by rcases hq with rfl | rfl <;> decide +kernel
      rw [e] at h
      exact absurd h.symm snoc_ne
    | cons b s =>
      have l2 : ¬ (a :: b :: s ++ T).length ≤ 1 := by simp
      rw [if_neg l2]
      by_cases ce : esc (a :: b :: s ++ [32]) 0 = true
      · rw [if_pos ce] at h ⊢
        rw [if_pos (show esc (a :: b :: s ++ T) 0 = true by rw [esc_bk hT]; exact ce)]
        rw [dp_app] at h
        rw [dp_app, dp_app]
        simp only at h
        rcases suf_snoc (escT_suf (b :: s ++ [32])) with hx | ⟨p, hp, hps⟩
        · rw [hx] at h
          have e0 : (qt q []).2.2 = [] := by rw [qt, dif_pos (by rfl)]
          rw [e0] at h
          exact absurd h.symm snoc_ne
        · have h3 := escT_bk hT hp
          rw [hp] at h
          rw [h3, hp]
          simp only
          rw [qt_bk hT q hq m p r' (by have := hps.length_le; simp at hl this; omega) h]
      · rw [if_neg ce] at h ⊢
        rw [if_neg (show ¬ esc (a :: b :: s ++ T) 0 = true by rw [esc_bk hT]; exact ce)]
        exact qt_bk hT q hq m s r' (by simp at hl; omega) h
theorem badT_bk (hT : Bk T) : ∀ (m : Nat) (s r' : List Int), s.length ≤ m → badT (s ++ [32]) = r' ++ [32] → badT (s ++ T) = r' ++ T
  | _, [], r', _, h => by
    have e : badT ([] ++ [32]) = [] := by decide +kernel
    rw [e] at h
    exact absurd h.symm snoc_ne
  | 0, a :: s, _, h, _ => by simp at h
  | m + 1, a :: s, r', hl, h => by
    have n1 : ¬ (a :: s ++ [32]).isEmpty = true := by simp
    have n2 : ¬ (a :: s ++ T).isEmpty = true := by simp
    have a1 : ah (a :: s ++ [32]) 0 = a := rfl
    have a2 : ah (a :: s ++ T) 0 = a := rfl
    rw [badT.eq_def (a :: s ++ [32])] at h
    rw [badT.eq_def (a :: s ++ T)]
    rw [dif_neg n1, a1] at h
    rw [dif_neg n2, a2]
    by_cases c1 : a = 41
    · rw [if_pos c1] at h ⊢
      have : s = r' := snoc_inj h
      subst this
      rfl
    rw [if_neg c1] at h ⊢
    by_cases ce : esc (a :: s ++ [32]) 0 = true
    · rw [if_pos ce] at h
      rw [if_pos (show esc (a :: s ++ T) 0 = true by rw [esc_bk hT]; exact ce)]
      rw [dp_app] at h ⊢
      rcases suf_snoc (escT_suf (s ++ [32])) with hx | ⟨p, hp, hps⟩
      · rw [hx] at h
        have e0 : badT [] = [] := by rw [badT, dif_pos (by rfl)]
        rw [e0] at h
        exact absurd h.symm snoc_ne
      · have h3 := escT_bk hT hp
        rw [hp] at h
        rw [h3]
        exact badT_bk hT m p r' (by have := hps.length_le; simp at hl; omega) h
    · rw [if_neg ce] at h
      rw [if_neg (show ¬ esc (a :: s ++ T) 0 = true by rw [esc_bk hT]; exact ce)]
      exact badT_bk hT m s r' (by simpa using hl) h
theorem wh_bk : ∀ (s r' : List Int), wh (s ++ [32]) = r' ++ [32] → wh (s ++ T) = r' ++ T ∧ ∃ a t, r' = a :: t ∧ sWhite a = false
  | [], r', h => absurd h (by rw [show wh ([] ++ [32]) = [] by decide]; exact fun e => snoc_ne e.symm)
  | a :: s, r', h => by
    by_cases c : sWhite a = true
    · rw [wh_white (r := a :: s ++ [32]) (show sWhite (ah (a :: s ++ [32]) 0) = true from c), dp_app] at h
      rw [wh_white (r := a :: s ++ T) (show sWhite (ah (a :: s ++ T) 0) = true from c), dp_app]
      exact wh_bk s r' h
    · have c : sWhite a = false := by simpa using c
      rw [wh_else (r := a :: s ++ [32]) (show sWhite (ah (a :: s ++ [32]) 0) = false from c)] at h
      rw [wh_else (r := a :: s ++ T) (show sWhite (ah (a :: s ++ T) 0) = false from c)]
      have : a :: s = r' := snoc_inj h
      subst this
      exact ⟨rfl, a, s, rfl, c⟩
theorem adr_bk (hT : Bk T) : ∀ (m : Nat) (s r' : List Int), s.length ≤ m → (adr (s ++ [32])).2.2 = r' ++ [32] → adr (s ++ T) = ((adr (s ++ [32])).1, (adr (s ++ [32])).2.1, r' ++ T)
  | _, [], r', _, h => by
    have e : (adr ([] ++ [32])).2.2 = [] := by decide +kernel
    rw [e] at h
    exact absurd h.symm snoc_ne
  | 0, a :: s, _, h, _ => by simp at h
  | m + 1, a :: s, r', hl, h => by
    have n1 : ¬ (a :: s ++ [32]).isEmpty = true := by simp
    have n2 : ¬ (a :: s ++ T).isEmpty = true := by simp
    have a1 : ah (a :: s ++ [32]) 0 = a := rfl
    have a2 : ah (a :: s ++ T) 0 = a := rfl
    rw [adr.eq_def (a :: s ++ [32])] at h ⊢
    rw [adr.eq_def (a :: s ++ T)]
    rw [dif_neg n1, a1] at h
    rw [dif_neg n1, dif_neg n2, a1, a2]
    by_cases c1 : a = 41
    · rw [if_pos c1] at h ⊢
      rw [if_pos c1]
      have : s = r' := snoc_inj h
      subst this
      rfl
    rw [if_neg c1] at h ⊢
    rw [if_neg c1]
    by_cases ce : esc (a :: s ++ [32]) 0 = true
    · rw [if_pos ce] at h ⊢
      rw [if_pos (show esc (a :: s ++ T) 0 = true by rw [esc_bk hT]; exact ce)]
      rw [dp_app] at h
      rw [dp_app, dp_app]
      simp only at h
      rcases suf_snoc (escT_suf (s ++ [32])) with hx | ⟨p, hp, hps⟩
      · rw [hx] at h
        have e0 : (adr []).2.2 = [] := by rw [adr, dif_pos (by rfl)]
        rw [e0] at h
        exact absurd h.symm snoc_ne
      · have h3 := escT_bk hT hp
        rw [hp] at h
        rw [h3, hp]
        simp only
        rw [adr_bk hT m p r' (by have := hps.length_le; simp at hl; omega) h]
    rw [if_neg ce] at h ⊢
    rw [if_neg (show ¬ esc (a :: s ++ T) 0 = true by rw [esc_bk hT]; exact ce)]
    by_cases cw : sWhite a = true
    · rw [if_pos cw] at h ⊢
      rw [if_pos cw]
      rcases suf_snoc (wh_suf (a :: s ++ [32])) with hx | ⟨p, hp, hps⟩
      · rw [hx, if_pos (by rfl)] at h
        exact absurd h.symm snoc_ne
      · obtain ⟨hw, b, t, rfl, hb⟩ := wh_bk _ _ hp
        rw [hp] at h ⊢
        rw [hw]
        have m1 : ¬ (b :: t ++ [32]).isEmpty = true := by simp
        have m2 : ¬ (b :: t ++ T).isEmpty = true := by simp
        rw [if_neg m1] at h ⊢
        rw [if_neg m2]
        by_cases c4 : b = 41
        · rw [if_pos (show ah (b :: t ++ [32]) 0 = 41 from c4)] at h ⊢
          rw [if_pos (show ah (b :: t ++ T) 0 = 41 from c4)]
          have : t = r' := snoc_inj h
          subst this
          rfl
        · rw [if_neg (show ¬ ah (b :: t ++ [32]) 0 = 41 from c4)] at h ⊢
          rw [if_neg (show ¬ ah (b :: t ++ T) 0 = 41 from c4)]
          simp only at h ⊢
          rw [badT_bk hT _ _ r' (Nat.le_refl _) h]
    rw [if_neg cw] at h ⊢
    rw [if_neg cw]
    by_cases cs : spoil a = true
    · rw [if_pos cs] at h ⊢
      rw [if_pos cs]
      simp only at h ⊢
      rw [badT_bk hT _ _ r' (Nat.le_refl _) h]
    rw [if_neg cs] at h ⊢
    rw [if_neg cs]
    rw [dp_app] at h
    rw [dp_app, dp_app]
    simp only at h ⊢
    rw [adr_bk hT m s r' (by simpa using hl) h]
end
end Go.Proofs.YtfggpenfdfklkaaGreat
namespace Go.Proofs.YtfggpenfdfklkaaGreat
open Go.RowKit
section
variable {T : List Int}
theorem pre_bk (hT : Bk T) : ∀ (l r : List Int), (∀ x ∈ l, x ≠ 32 ∧ x ≠ -1) → pre l (r ++ T) = pre l (r ++ [32])
  | [], r, _ => rfl
  | a :: l, [], h => by
    have h1 := h a (by simp)
    have e1 : pre (a :: l) ([] ++ [32]) = false := by
      show (a == 32 && l.isPrefixOf []) = false
      simp [h1.1]
    have e2 : pre (a :: l) ([] ++ T) = false := by
      rcases hT with rfl | ⟨B, rfl⟩
      · rfl
      · show (a == 32 && l.isPrefixOf B) = false
        simp [h1.1]
    rw [e1, e2]
  | a :: l, b :: r, h => by
    have ih := pre_bk hT l r (fun x hx => h x (by simp [hx]))
    unfold pre at ih
    show (a == b && l.isPrefixOf (r ++ T)) = (a == b && l.isPrefixOf (r ++ [32]))
    rw [ih]
theorem cnt_bk (hT : Bk T) : ∀ s : List Int, cnt (s ++ T) = cnt s ++ T
  | [] => by
    rw [List.nil_append, cnt_no (cls0 hT.ah0).2.1]
    rfl
  | a :: s => by
    by_cases c : sDigit a = true
    · rw [cnt_yes (r := a :: s ++ T) (show sDigit (ah (a :: s ++ T) 0) = true from c), cnt_yes (r := a :: s) (show sDigit (ah (a :: s) 0) = true from c)]
      exact cnt_bk hT s
    · have c : sDigit a = false := by simpa using c
      rw [cnt_no (r := a :: s ++ T) (show sDigit (ah (a :: s ++ T) 0) = false from c), cnt_no (r := a :: s) (show sDigit (ah (a :: s) 0) = false from c)]
theorem sgn_bk (hT : Bk T) (s : List Int) : sgn (s ++ T) 0 = sgn s 0 := by
  have hc := cls0 hT.ah0
  cases s with
  | nil =>
    unfold sgn
    rw [List.nil_append]
    have e : ah ([] : List Int) 0 = -1 := rfl
    rw [e]
    simp [hc.2.2.2.2.2.2.1, hc.2.2.2.2.2.2.2.1]
  | cons a s => rfl
theorem frac_bk (hT : Bk T) (s : List Int) : frac (s ++ T) 0 = frac s 0 := by
  have hc := cls0 hT.ah0
  match s with
  | [] =>
    unfold frac
    rw [List.nil_append]
    have e : ah ([] : List Int) 0 = -1 := rfl
    rw [e]
    simp [hc.2.2.2.2.2.2.2.2.1]
  | [a] =>
    have e1 : ah ([a] ++ T) 1 = ah T 0 := rfl
    have e2 : ah [a] 1 = -1 := rfl
    have e3 : ah ([a] ++ T) 0 = a := rfl
    have e4 : ah [a] 0 = a := rfl
    unfold frac
    rw [e1, e2, e3, e4, hc.2.1]
    rfl
  | a :: b :: s => rfl
theorem expo_bk (hT : Bk T) (s : List Int) : expo (s ++ T) = expo s := by
  have hc := cls0 hT.ah0
  match s with
  | [] =>
    unfold expo
    rw [List.nil_append]
    have e : ah ([] : List Int) 0 = -1 := rfl
    rw [e, if_neg (by intro h; rcases h with h | h; exact hc.2.2.2.2.2.2.2.2.2.2.2.2.2.2.1 h; exact hc.2.2.2.2.2.2.2.2.2.2.2.2.2.2.2 h), if_neg (by decide)]
  | [a] =>
    have e1 : ah ([a] ++ T) 1 = ah T 0 := rfl
    have e2 : ah [a] 1 = -1 := rfl
    have e3 : ah ([a] ++ T) 0 = a := rfl
    have e4 : ah [a] 0 = a := rfl
    have e5 : sgn ([a] ++ T) 1 = false := by unfold sgn; rw [e1]; simp [hc.2.2.2.2.2.2.1, hc.2.2.2.2.2.2.2.1]
    have e6 : sgn [a] 1 = false := by unfold sgn; rw [e2]; rfl
    unfold expo
    rw [e3, e4, e5, e6, e1, e2, hc.2.1]
    rfl
  | [a, b] =>
    have e1 : ah ([a, b] ++ T) 2 = ah T 0 := rfl
    have e2 : ah [a, b] 2 = -1 := rfl
    have e3 : sgn ([a, b] ++ T) 1 = sgn [a, b] 1 := rfl
    have e4 : ah ([a, b] ++ T) 1 = ah [a, b] 1 := rfl
    have e5 : ah ([a, b] ++ T) 0 = ah [a, b] 0 := rfl
    unfold expo
    rw [e3, e4, e5, e1, e2, hc.2.1]
    rfl
  | a :: b :: c :: s => rfl
theorem Bk.blank : Bk [32] := .inr ⟨[], rfl⟩
theorem numB_bk (hT : Bk T) (s : List Int) : numB (s ++ T) = numB s := by
  have hc := cls0 hT.ah0
  have h0 := sgn_bk hT s
  have h1 := frac_bk hT s
  unfold numB
  rw [h0, h1]
  match s with
  | [] =>
    have e : ah ([] : List Int) 0 = -1 := rfl
    have es : sgn ([] : List Int) 0 = false := by decide
    rw [es, if_neg (by decide), if_neg (by decide), List.nil_append, e, hc.2.1]
    rfl
  | [a] =>
    have e1 : ah ([a] ++ T) 1 = ah T 0 := rfl
    have e2 : ah [a] 1 = -1 := rfl
    have e3 : ah ([a] ++ T) 0 = ah [a] 0 := rfl
    have e4 : frac ([a] ++ T) 1 = frac ([] ++ T) 0 := rfl
    have e5 : frac [a] 1 = frac [] 0 := rfl
    rw [e1, e2, e3, e4, e5, frac_bk hT [], hc.2.1]
    rfl
  | a :: b :: s =>
    have e4 : frac (a :: b :: s ++ T) 1 = frac (b :: s ++ T) 0 := rfl
    have e5 : frac (a :: b :: s) 1 = frac (b :: s) 0 := rfl
    rw [e4, e5, frac_bk hT (b :: s)]
    rfl
theorem num1_bk (hT : Bk T) (s : List Int) : num1 (s ++ T) = num1 s ++ T := by
  unfold num1
  rw [sgn_bk hT s]
  cases s with
  | nil => rw [if_neg (by decide), if_neg (by decide)]
  | cons a s => split <;> rfl
theorem num2_bk (hT : Bk T) (s : List Int) : num2 (s ++ T) = num2 s ++ T := by unfold num2; rw [num1_bk hT, cnt_bk hT]
theorem num3_bk (hT : Bk T) (s : List Int) : num3 (s ++ T) = num3 s ++ T := by
  unfold num3
  rw [num2_bk hT, frac_bk hT]
  split
  · rename_i h
    cases hn : num2 s with
    | nil => rw [hn] at h; exact absurd h (by decide)
    | cons a q => rw [dp_app]; exact cnt_bk hT q
  · rfl
theorem num4_bk (hT : Bk T) (s : List Int) : num4 (s ++ T) = num4 s ++ T := by
  unfold num4
  rw [num3_bk hT, expo_bk hT]
  split
  · rename_i h
    have hd : ∀ (q : List Int), dp (expo q) (q ++ T) = dp (expo q) q ++ T := fun q => by
      unfold dp
      rw [List.drop_append_of_le_length]
      unfold expo
      split
      · rename_i h0
        split
        · split
          · rename_i h2
            have := len_of_digit h2
            omega
          · omega
        · split
          · rename_i h2
            have := len_of_digit h2
            omega
          · omega
      · omega
    rw [hd, cnt_bk hT]
  · rfl
theorem num2_le (s : List Int) : (num2 s).length ≤ s.length := by
  unfold num2 num1
  split
  · exact Nat.le_trans (cnt_suf _).length_le (by rw [dp_len]; omega)
  · exact (cnt_suf _).length_le
theorem plain_bk (hT : Bk T) (s : List Int) : plainT (s ++ T) = plainT s := by
  have h2 := num2_bk hT s
  have h3 := num3_bk hT s
  have hl := num2_le s
  have hw : numW (s ++ T) = numW s := by unfold numW; rw [h2, h3, frac_bk hT, expo_bk hT]
  have ht : (s ++ T).take ((s ++ T).length - (num2 (s ++ T)).length) = s.take (s.length - (num2 s).length) := by
    rw [h2, List.length_append, List.length_append, show s.length + T.length - ((num2 s).length + T.length) = s.length - (num2 s).length by omega, List.take_append_of_le_length (by omega)]
  unfold plainT
  rw [hw, ht, sgn_bk hT]
theorem number_bk (hT : Bk T) {s r' : List Int} (h : (numberT (s ++ [32])).2 = r' ++ [32]) : numberT (s ++ T) = ((numberT (s ++ [32])).1, r' ++ T) := by
  have h4 := num4_bk hT s
  have h4' := num4_bk Bk.blank s
  have hp := plain_bk hT s
  have hp' := plain_bk Bk.blank s
  unfold numberT at h ⊢
  rw [h4', hp'] at h ⊢
  rw [h4, hp, nbg_bk hT (num4 s), pre_bk hT [37] (num4 s) (by intro x hx; simp at hx; omega)]
  by_cases c1 : nbg (num4 s ++ [32]) 0 = true
  · rw [if_pos c1] at h ⊢
    rw [if_pos c1]
    have hn := nm_bk hT _ (num4 s) r' (Nat.le_refl _) h
    rw [hn]
  · rw [if_neg c1] at h ⊢
    rw [if_neg c1]
    by_cases c2 : pre [37] (num4 s ++ [32]) = true
    · rw [if_pos c2] at h ⊢
      rw [if_pos c2]
      cases hq : num4 s with
      | nil => rw [hq] at c2; exact absurd c2 (by decide)
      | cons a q =>
        rw [hq] at h
        have : q = r' := snoc_inj h
        subst this
        rfl
    · rw [if_neg c2] at h ⊢
      rw [if_neg c2]
      have : num4 s = r' := snoc_inj h
      rw [this]
end
end Go.Proofs.YtfggpenfdfklkaaGreat
namespace Go.Proofs.YtfggpenfdfklkaaGreat
open Go.RowKit
section
variable {T : List Int}
theorem quoted_bk (hT : Bk T) {a : Int} {s r' : List Int} (ha : a = 34 ∨ a = 39) (h : (quotedT (a :: s ++ [32])).2 = r' ++ [32]) : quotedT (a :: s ++ T) = ((quotedT (a :: s ++ [32])).1, r' ++ T) := by
  unfold quotedT at h ⊢
  have e1 : ah (a :: s ++ [32]) 0 = a := rfl
  have e2 : ah (a :: s ++ T) 0 = a := rfl
  rw [e1, dp_app] at h
  rw [e1, e2, dp_app, dp_app]
  have := qt_bk hT a ha _ s r' (Nat.le_refl _) h
  rw [this]
  rfl
theorem hash_bk (hT : Bk T) {a : Int} {s r' : List Int} (h : (hashT (a :: s ++ [32])).2 = r' ++ [32]) : hashT (a :: s ++ T) = ((hashT (a :: s ++ [32])).1, r' ++ T) := by
  have hc := cls0 hT.ah0
  have e1 : esc (a :: s ++ [32]) 1 = esc (s ++ [32]) 0 := rfl
  have e2 : esc (a :: s ++ T) 1 = esc (s ++ T) 0 := rfl
  have e3 : sName (ah (a :: s ++ T) 1) = sName (ah (a :: s ++ [32]) 1) := by
    cases s with
    | nil =>
      show sName (ah T 0) = sName 32
      rw [hc.1]; decide
    | cons b s => rfl
  unfold hashT at h ⊢
  rw [e2, e3, esc_bk hT s, ← e1]
  by_cases c : (sName (ah (a :: s ++ [32]) 1) || esc (a :: s ++ [32]) 1) = true
  · rw [if_pos c] at h ⊢
    rw [if_pos c]
    rw [dp_app] at h
    rw [dp_app, dp_app, nbg_bk hT s, nm_bk hT _ s r' (Nat.le_refl _) h]
  · rw [if_neg c] at h ⊢
    rw [if_neg c]
    have : s = r' := snoc_inj h
    subst this
    rfl
theorem at_bk (hT : Bk T) {a : Int} {s r' : List Int} (h : (atT (a :: s ++ [32])).2 = r' ++ [32]) : atT (a :: s ++ T) = ((atT (a :: s ++ [32])).1, r' ++ T) := by
  have e1 : nbg (a :: s ++ [32]) 1 = nbg (s ++ [32]) 0 := rfl
  have e2 : nbg (a :: s ++ T) 1 = nbg (s ++ T) 0 := rfl
  unfold atT at h ⊢
  rw [e2, nbg_bk hT s, ← e1]
  by_cases c : nbg (a :: s ++ [32]) 1 = true
  · rw [if_pos c] at h ⊢
    rw [if_pos c]
    rw [dp_app] at h
    rw [dp_app, dp_app, nm_bk hT _ s r' (Nat.le_refl _) h]
  · rw [if_neg c] at h ⊢
    rw [if_neg c]
    have : s = r' := snoc_inj h
    subst this
    rfl
theorem url_bk (hT : Bk T) {n : ByteArray} {s r' : List Int} (h : (urlT n (40 :: s ++ [32])).2 = r' ++ [32]) : urlT n (40 :: s ++ T) = ((urlT n (40 :: s ++ [32])).1, r' ++ T) := by
  unfold urlT at h ⊢
  rw [dp_app] at h
  rw [dp_app, dp_app]
  rcases suf_snoc (wh_suf (s ++ [32])) with hx | ⟨p, hp, hps⟩
  · rw [hx] at h
    have e : ((if ah ([] : List Int) 0 = 34 ∨ ah ([] : List Int) 0 = 39 then (({ kind := 2, text := n } : Tok), dp ((s ++ [32]).length - ([] : List Int).length - 1) (s ++ [32])) else (tokQ 7 8 (adr []), (adr []).2.2))).2 = [] := by
      rw [if_neg (by decide)]
      show (adr []).2.2 = []
      rw [adr, dif_pos (by rfl)]
    rw [e] at h
    exact absurd h.symm snoc_ne
  · obtain ⟨hw, b, t, rfl, hb⟩ := wh_bk _ _ hp
    rw [hp] at h ⊢
    rw [hw]
    have a1 : ah (b :: t ++ [32]) 0 = b := rfl
    have a2 : ah (b :: t ++ T) 0 = b := rfl
    rw [a1] at h ⊢
    rw [a2]
    by_cases c : b = 34 ∨ b = 39
    · rw [if_pos c] at h ⊢
      rw [if_pos c]
      have hl := hps.length_le
      have k1 : (s ++ [32]).length - (b :: t ++ [32]).length - 1 = s.length - (b :: t).length - 1 := by simp only [List.length_append]; omega
      have k2 : (s ++ T).length - (b :: t ++ T).length - 1 = s.length - (b :: t).length - 1 := by simp only [List.length_append]; omega
      rw [k1] at h
      rw [k1, k2]
      have d1 : dp (s.length - (b :: t).length - 1) (s ++ [32]) = dp (s.length - (b :: t).length - 1) s ++ [32] := by unfold dp; rw [List.drop_append_of_le_length (by omega)]
      have d2 : dp (s.length - (b :: t).length - 1) (s ++ T) = dp (s.length - (b :: t).length - 1) s ++ T := by unfold dp; rw [List.drop_append_of_le_length (by omega)]
      rw [d1] at h
      rw [d2, d1]
      have : dp (s.length - (b :: t).length - 1) s = r' := snoc_inj h
      rw [this]
    · rw [if_neg c] at h ⊢
      rw [if_neg c]
      simp only at h
      rw [adr_bk hT _ (b :: t) r' (Nat.le_refl _) h]
      rfl
theorem ident_bk (hT : Bk T) {s r' : List Int} (h : (identT (s ++ [32])).2 = r' ++ [32]) : identT (s ++ T) = ((identT (s ++ [32])).1, r' ++ T) := by
  have hc := cls0 hT.ah0
  have key : ∀ q, (nm (s ++ [32])).2 = q ++ [32] → nm (s ++ T) = ((nm (s ++ [32])).1, q ++ T) := fun q hq => nm_bk hT _ s q (Nat.le_refl _) hq
  unfold identT at h ⊢
  rcases suf_snoc (nm_suf' (s ++ [32])) with hx | ⟨q, hq, _⟩
  · rw [hx] at h
    rw [if_pos (by decide)] at h
    exact absurd h.symm snoc_ne
  · rw [key q hq]
    rw [hq] at h ⊢
    simp only
    cases q with
    | nil =>
      have e1 : ah ([] ++ [32]) 0 = 32 := rfl
      have e3 : ah ([] ++ T) 0 ≠ 40 := hc.2.2.2.2.2.2.2.2.2.1
      rw [e1, if_pos (by decide)] at h
      rw [if_pos e3, e1, if_pos (by decide)]
      have : ([] : List Int) = r' := snoc_inj h
      subst this
      rfl
    | cons b q =>
      have e1 : ah (b :: q ++ [32]) 0 = b := rfl
      have e2 : ah (b :: q ++ T) 0 = b := rfl
      rw [e1] at h ⊢
      rw [e2]
      by_cases c : b ≠ 40
      · rw [if_pos c] at h ⊢
        rw [if_pos c]
        have : b :: q = r' := snoc_inj h
        subst this
        rfl
      · rw [if_neg c] at h ⊢
        rw [if_neg c]
        have hb : b = 40 := by simpa using c
        subst hb
        by_cases cu : ((lowS (runesBytes (nm (s ++ [32])).1)).toList == [117, 114, 108]) = true
        · rw [if_pos cu] at h ⊢
          rw [if_pos cu]
          exact url_bk hT h
        · rw [if_neg cu] at h ⊢
          rw [if_neg cu]
          have : q = r' := snoc_inj h
          subst this
          rfl
theorem pre_at {l r : List Int} (h : pre l r = true) : l.length ≤ r.length := (List.isPrefixOf_iff_prefix.1 h).length_le
theorem tok_bk (hT : Bk T) {a : Int} {s r' : List Int} (h : (tokT (a :: s ++ [32])).2 = r' ++ [32]) : tokT (a :: s ++ T) = ((tokT (a :: s ++ [32])).1, r' ++ T) := by
  have a1 : ah (a :: s ++ [32]) 0 = a := rfl
  have a2 : ah (a :: s ++ T) 0 = a := rfl
  have n1 := (numB_bk hT (a :: s)).trans (numB_bk Bk.blank (a :: s)).symm
  have p1 := pre_bk hT [45, 45, 62] (a :: s) (by intro x hx; simp at hx; omega)
  have p2 := pre_bk hT [60, 33, 45, 45] (a :: s) (by intro x hx; simp at hx; omega)
  have b1 := nbg_bk hT (a :: s)
  unfold tokT at h ⊢
  rw [a1] at h ⊢
  rw [a2, n1, p1, p2, b1]
  by_cases c1 : sWhite a = true
  · rw [if_pos c1] at h ⊢
    rw [if_pos c1]
    simp only at h ⊢
    rw [(wh_bk _ _ h).1]
  rw [if_neg c1] at h ⊢
  rw [if_neg c1]
  by_cases c2 : a = 34 ∨ a = 39
  · rw [if_pos c2] at h ⊢
    rw [if_pos c2]
    exact quoted_bk hT c2 h
  rw [if_neg c2] at h ⊢
  rw [if_neg c2]
  by_cases c3 : a = 35
  · rw [if_pos c3] at h ⊢
    rw [if_pos c3]
    exact hash_bk hT h
  rw [if_neg c3] at h ⊢
  rw [if_neg c3]
  by_cases c4 : a = 64
  · rw [if_pos c4] at h ⊢
    rw [if_pos c4]
    exact at_bk hT h
  rw [if_neg c4] at h ⊢
  rw [if_neg c4]
  by_cases c5 : numB (a :: s ++ [32]) = true
  · rw [if_pos c5] at h ⊢
    rw [if_pos c5]
    exact number_bk hT h
  rw [if_neg c5] at h ⊢
  rw [if_neg c5]
  by_cases c6 : pre [45, 45, 62] (a :: s ++ [32]) = true
  · rw [if_pos c6] at h ⊢
    rw [if_pos c6]
    simp only at h ⊢
    match s, c6, h with
    | b :: c :: s, _, h =>
      have : s = r' := snoc_inj h
      subst this
      rfl
    | [b], c6, _ => simp [pre] at c6
    | [], c6, _ => simp [pre] at c6
  rw [if_neg c6] at h ⊢
  rw [if_neg c6]
  by_cases c7 : pre [60, 33, 45, 45] (a :: s ++ [32]) = true
  · rw [if_pos c7] at h ⊢
    rw [if_pos c7]
    simp only at h ⊢
    match s, c7, h with
    | b :: c :: d :: s, _, h =>
      have : s = r' := snoc_inj h
      subst this
      rfl
    | [b, c], c7, _ => simp [pre] at c7
    | [b], c7, _ => simp [pre] at c7
    | [], c7, _ => simp [pre] at c7
  rw [if_neg c7] at h ⊢
  rw [if_neg c7]
  by_cases c8 : nbg (a :: s ++ [32]) 0 = true
  · rw [if_pos c8] at h ⊢
    rw [if_pos c8]
    exact ident_bk hT h
  rw [if_neg c8] at h ⊢
  rw [if_neg c8]
  have : s = r' := snoc_inj h
  subst this
  rfl
end
end Go.Proofs.YtfggpenfdfklkaaGreat
namespace Go.Proofs.YtfggpenfdfklkaaGreat
open Go.RowKit
section
variable {T : List Int}
theorem cmEnd_bk (hT : Bk T) : ∀ s r' : List Int, cmEnd (s ++ [32]) = r' ++ [32] → cmEnd (s ++ T) = r' ++ T
  | [], r', h => by
    have : cmEnd ([] ++ [32]) = [] := by decide +kernel
    rw [this] at h
    exact absurd h.symm snoc_ne
  | a :: t, r', h => by
    have p := pre_bk hT [42, 47] (a :: t) (by intro x hx; simp at hx; omega)
    by_cases c : pre [42, 47] (a :: t ++ [32]) = true
    · rw [cmEnd_yes c] at h
      rw [cmEnd_yes (p.trans c)]
      match t, c, h with
      | b :: t, _, h =>
        have : t = r' := snoc_inj h
        subst this
        rfl
      | [], c, _ => simp [pre] at c
    · have c' : pre [42, 47] (a :: t ++ [32]) = false := by simpa using c
      rw [cmEnd_no c'] at h
      rw [cmEnd_no (p.trans c')]
      exact cmEnd_bk hT t r' h
theorem cm_nil : cm [] = [] := rfl
theorem cm_bk (hT : Bk T) : ∀ (n : Nat) (s r' : List Int), s.length ≤ n → cm (s ++ [32]) = r' ++ [32] → cm (s ++ T) = r' ++ T := by
  intro n
  induction n with
  | zero =>
    intro s r' hn h
    have : s = [] := List.eq_nil_of_length_eq_zero (by omega)
    subst this
    have p := pre_bk hT [47, 42] [] (by intro x hx; simp at hx; omega)
    have c' : pre [47, 42] ([] ++ [32]) = false := by decide +kernel
    rw [cm_no c'] at h
    rw [cm_no (p.trans c'), snoc_inj h]
  | succ n ih =>
    intro s r' hn h
    have p := pre_bk hT [47, 42] s (by intro x hx; simp at hx; omega)
    by_cases c : pre [47, 42] (s ++ [32]) = true
    · rw [cm_yes c] at h
      rw [cm_yes (p.trans c)]
      match s, c, hn, h with
      | a :: b :: t, _, hn, h =>
        have h : cm (cmEnd (t ++ [32])) = r' ++ [32] := h
        show cm (cmEnd (t ++ T)) = r' ++ T
        rcases suf_snoc (cmEnd_suf (t ++ [32])) with hx | ⟨q, hq, hs⟩
        · rw [hx, cm_nil] at h
          exact absurd h.symm snoc_ne
        · rw [hq] at h
          rw [cmEnd_bk hT t q hq]
          have := hs.length_le
          simp at hn
          exact ih q r' (by omega) h
      | [b], c, _, _ => simp [pre] at c
      | [], c, _, _ => simp [pre] at c
    · have c' : pre [47, 42] (s ++ [32]) = false := by simpa using c
      rw [cm_no c'] at h
      rw [cm_no (p.trans c'), snoc_inj h]
theorem toks_white {Y : List Int} (hY : sWhite (ah Y 0) = false) : toksC (32 :: Y) = { kind := 13 } :: toks Y := by
  have e : wh Y = Y := wh_else hY
  have e0 : sWhite (ah (32 :: Y) 0) = true := by show sWhite 32 = true; decide
  have e2 : tokT (32 :: Y) = ({ kind := 13 }, Y) := by
    rw [tokT, if_pos e0, wh_white e0]
    show (_, wh Y) = _
    rw [e]
  unfold toksC
  rw [if_neg (by simp), e2]
theorem toksC_cons (a : Int) (s : List Int) : toksC (a :: s) = (tokT (a :: s)).1 :: toks (tokT (a :: s)).2 := by
  unfold toksC
  rw [if_neg (by simp)]
theorem tokT_suf (r : List Int) : (tokT r).2 <:+ r := by
  unfold tokT
  split
  · exact wh_suf _
  split
  · exact (qt_suf _ _).trans (dp_suf _ _)
  split
  · unfold hashT
    split
    · exact (nm_suf' _).trans (dp_suf _ _)
    · exact dp_suf _ _
  split
  · unfold atT
    split
    · exact (nm_suf' _).trans (dp_suf _ _)
    · exact dp_suf _ _
  split
  · have e4 : num4 r <:+ r := by
      have e4 : num4 r <:+ num3 r := by
        unfold num4
        split
        · exact (cnt_suf _).trans (dp_suf _ _)
        · exact List.suffix_refl _
      have e3 : num3 r <:+ num2 r := by
        unfold num3
        split
        · exact (cnt_suf _).trans (dp_suf _ _)
        · exact List.suffix_refl _
      have e1 : num1 r <:+ r := by
        unfold num1
        split
        · exact dp_suf _ _
        · exact List.suffix_refl _
      exact e4.trans (e3.trans ((cnt_suf _).trans e1))
    unfold numberT
    split
    · exact (nm_suf' _).trans e4
    split
    · exact (dp_suf _ _).trans e4
    · exact e4
  split
  · exact dp_suf _ _
  split
  · exact dp_suf _ _
  split
  · unfold identT
    split
    · exact nm_suf' _
    split
    · exact (urlT_suf _ _).trans (nm_suf' _)
    · exact (dp_suf _ _).trans (nm_suf' _)
  · exact dp_suf _ _
theorem tokT_rest (a : Int) (s : List Int) : (tokT (a :: s)).2 <:+ s := by
  have h1 := tokT_suf (a :: s)
  have h2 := tokT_lt (r := a :: s) (by simp)
  obtain ⟨t, ht⟩ := h1
  cases t with
  | nil => rw [List.nil_append] at ht; rw [ht] at h2; exact absurd h2 (Nat.lt_irrefl _)
  | cons b t => exact ⟨t, by simpa using (List.cons.inj ht).2⟩
theorem joins {Y : List Int} (hY : sWhite (ah Y 0) = false) : ∀ (n : Nat) (r : List Int), r.length ≤ n → (toks (r ++ [32])).length = (toks r).length + 1 →
    toks (r ++ 32 :: Y) = toks r ++ { kind := 13 } :: toks Y := by
  have hT : Bk (32 :: Y) := .inr ⟨Y, rfl⟩
  have hN : Bk ([] : List Int) := .inl rfl
  intro n
  induction n with
  | zero =>
    intro r hn _
    have : r = [] := List.eq_nil_of_length_eq_zero (by omega)
    subst this
    have c : pre [47, 42] ([] ++ 32 :: Y) = false := rfl
    rw [toks_eq, cm_no c]
    show toksC (32 :: Y) = _
    rw [toks_white hY, toks_eq []]
    rfl
  | succ n ih =>
    intro r hn h
    rcases suf_snoc (cm_suf (r ++ [32])) with hx | ⟨q, hq, hs⟩
    · rw [toks_eq, hx] at h
      simp [toksC] at h
    · have h1 := cm_bk hT _ r q (Nat.le_refl _) hq
      have h2 : cm r = q := by simpa using cm_bk hN _ r q (Nat.le_refl _) hq
      rw [toks_eq (r ++ [32]), toks_eq r, hq, h2] at h
      rw [toks_eq (r ++ 32 :: Y), toks_eq r, h1, h2]
      cases q with
      | nil =>
        show toksC (32 :: Y) = _
        rw [toks_white hY]
        rfl
      | cons a s =>
        have hl := hs.length_le
        simp at hl
        have ea : a :: s ++ [32] = a :: (s ++ [32]) := rfl
        rcases suf_snoc (tokT_rest a (s ++ [32])) with hx | ⟨p, hp, hps⟩
        · rw [ea, toksC_cons, hx, toksC_cons, toks_eq []] at h
          simp [toksC, cm_nil] at h
        · have hpl := hps.length_le
          have k1 : tokT (a :: (s ++ 32 :: Y)) = ((tokT (a :: (s ++ [32]))).1, p ++ 32 :: Y) := tok_bk hT hp
          have k2 : tokT (a :: s) = ((tokT (a :: (s ++ [32]))).1, p) := by
            have := tok_bk hN (a := a) (s := s) (r' := p) hp
            simpa using this
          rw [ea, toksC_cons, hp, toksC_cons, k2] at h
          show toksC (a :: (s ++ 32 :: Y)) = _
          rw [toksC_cons, k1, toksC_cons, k2]
          simp only [List.length_cons] at h
          show _ :: toks (p ++ 32 :: Y) = _ :: _
          rw [ih p (by omega) (by omega)]
          rfl
theorem joins_white {r : List Int} (h : (toks (r ++ [32])).length = (toks r).length + 1) : toks (r ++ [32]) = toks r ++ [{ kind := 13 }] := by
  have := joins (Y := []) (by decide) _ r (Nat.le_refl _) h
  rw [this, toks_eq []]
  rfl
end
end Go.Proofs.YtfggpenfdfklkaaGreat
