
import Derived.Test.YtfggpenfdfklkaaGreatTkR
namespace Go.Proofs.YtfggpenfdfklkaaGreat
open Go.RowKit
/-! TokenJoins, plain: what stands behind a blank changes nothing ahead of it. -/
/-- What may stand where a blank stood: that blank with more behind it, or the end. -/
def Bk (T : List Int) : Prop := T = [] ∨ ∃ B, T = 32 :: B
theorem Bk.ah0 {T : List Int} (h : Bk T) : ah T 0 = -1 ∨ ah T 0 = 32 := by
  rcases h with rfl | ⟨B, rfl⟩
  · exact .inl rfl
  · exact .inr rfl
theorem ah_app {r T : List Int} {n : Nat} (h : n < r.length) : ah (r ++ T) n = ah r n := by
  unfold ah
  rw [List.getD_eq_getElem?_getD, List.getD_eq_getElem?_getD, List.getElem?_append_left h]
theorem ah_at (r T : List Int) : ah (r ++ T) r.length = ah T 0 := by
  unfold ah
  rw [List.getD_eq_getElem?_getD, List.getD_eq_getElem?_getD, List.getElem?_append_right (Nat.le_refl _), Nat.sub_self]
theorem cls0 {a : Int} (h : a = -1 ∨ a = 32) : sName a = false ∧ sDigit a = false ∧ sHexOk a = false ∧ sLetter a = false ∧ a ≠ 92 ∧ a ≠ 10 ∧ a ≠ 45 ∧ a ≠ 43 ∧ a ≠ 46 ∧ a ≠ 40 ∧ a ≠ 41 ∧ a ≠ 42 ∧ a ≠ 47 ∧ a ≠ 37 ∧ a ≠ 101 ∧ a ≠ 69 := by
  rcases h with rfl | rfl <;> decide
theorem dp_app (a : Int) (s T : List Int) : dp 1 (a :: s ++ T) = s ++ T := rfl
theorem suf_snoc {x s : List Int} (h : x <:+ s ++ [32]) : x = [] ∨ ∃ q, x = q ++ [32] ∧ q <:+ s := by
  rcases List.eq_nil_or_concat x with rfl | ⟨q, b, rfl⟩
  · exact .inl rfl
  · rw [List.concat_eq_append] at h ⊢
    obtain ⟨p, hp⟩ := h
    rw [← List.append_assoc] at hp
    have := List.append_inj' hp rfl
    simp at this
    exact .inr ⟨q, by rw [this.2], p, this.1⟩
theorem snoc_ne {q : List Int} : q ++ [32] ≠ ([] : List Int) := by simp
theorem snoc_inj {q q' : List Int} (h : q ++ [32] = q' ++ [32]) : q = q' := (List.append_inj' h rfl).1
section
variable {T : List Int}
theorem esc_bk (hT : Bk T) (r : List Int) : esc (r ++ T) 0 = esc (r ++ [32]) 0 := by
  have hc := cls0 hT.ah0
  match r with
  | [] =>
    have e1 : esc ([] ++ T) 0 = false := by unfold esc; rw [List.nil_append]; simp [hc.2.2.2.2.1]
    have e2 : esc ([] ++ [32]) 0 = false := by decide
    rw [e1, e2]
  | [a] =>
    have e1 : ah ([a] ++ T) 1 = ah T 0 := rfl
    have e2 : ah ([a] ++ [32]) 1 = 32 := rfl
    have e3 : ah ([a] ++ T) 0 = a := rfl
    have e4 : ah ([a] ++ [32]) 0 = a := rfl
    unfold esc
    rw [e1, e2, e3, e4]
    simp [hc.2.2.2.2.2.1]
  | a :: b :: r => rfl
theorem nbg_bk (hT : Bk T) (r : List Int) : nbg (r ++ T) 0 = nbg (r ++ [32]) 0 := by
  have hc := cls0 hT.ah0
  have hc2 := cls0 (a := 32) (.inr rfl)
  match r with
  | [] =>
    have e := esc_bk hT []
    unfold nbg
    rw [e]
    show (if ah T 0 = 45 then _ else sLetter (ah T 0) || _) = (if (32 : Int) = 45 then _ else sLetter 32 || _)
    rw [if_neg hc.2.2.2.2.2.2.1, if_neg (by decide), hc.2.2.2.1, hc2.2.2.2.1]
  | [a] =>
    have e0 := esc_bk hT [a]
    have e1 : ah ([a] ++ T) 1 = ah T 0 := rfl
    have e2 : ah ([a] ++ [32]) 1 = 32 := rfl
    have e3 : ah ([a] ++ T) 0 = a := rfl
    have e4 : ah ([a] ++ [32]) 0 = a := rfl
    have e5 : esc ([a] ++ T) 1 = false := by unfold esc; rw [e1]; simp [hc.2.2.2.2.1]
    have e6 : esc ([a] ++ [32]) 1 = false := by unfold esc; rw [e2]; simp
    unfold nbg
    rw [e0, e1, e2, e3, e4, e5, e6, hc.2.2.2.1, hc2.2.2.2.1]
    simp [hc.2.2.2.2.2.2.1]
  | [a, b] =>
    have e0 := esc_bk hT [a, b]
    have e1 := esc_bk hT [b]
    have e2 : esc ([a, b] ++ T) 1 = esc ([b] ++ T) 0 := rfl
    have e3 : esc ([a, b] ++ [32]) 1 = esc ([b] ++ [32]) 0 := rfl
    unfold nbg
    rw [e0, e2, e3, e1]
    rfl
  | a :: b :: c :: r => rfl
theorem hx_bk (hT : Bk T) : ∀ (k : Nat) (n : Int) (c : Nat) (s : List Int), ∃ q, q <:+ s ∧ hx k n c (s ++ [32]) = ((hx k n c (s ++ [32])).1, (hx k n c (s ++ [32])).2.1, q ++ [32]) ∧ hx k n c (s ++ T) = ((hx k n c (s ++ [32])).1, (hx k n c (s ++ [32])).2.1, q ++ T)
  | 0, n, c, s => ⟨s, List.suffix_refl _, rfl, rfl⟩
  | k + 1, n, c, [] => by
    have hc := cls0 hT.ah0
    refine ⟨[], List.suffix_refl _, ?_⟩
    have e1 : hx (k + 1) n c ([] ++ [32]) = (n, c, [32]) := by
      unfold hx
      rw [if_neg (by decide)]; rfl
    have e2 : hx (k + 1) n c ([] ++ T) = (n, c, T) := by
      unfold hx
      rw [List.nil_append, if_neg (by rw [hc.2.2.1]; decide)]
    rw [e1, e2]
    exact ⟨rfl, rfl⟩
  | k + 1, n, c, a :: s => by
    by_cases h : sHexOk a = true
    · have e1 : hx (k + 1) n c (a :: s ++ [32]) = hx k (n * 16 + sHex a) (c + 1) (s ++ [32]) := by
        conv => lhs; unfold hx
        rw [if_pos (show sHexOk (ah (a :: s ++ [32]) 0) = true from h)]; rfl
      have e2 : hx (k + 1) n c (a :: s ++ T) = hx k (n * 16 + sHex a) (c + 1) (s ++ T) := by
        conv => lhs; unfold hx
        rw [if_pos (show sHexOk (ah (a :: s ++ T) 0) = true from h)]; rfl
      obtain ⟨q, h1, h2, h3⟩ := hx_bk hT k (n * 16 + sHex a) (c + 1) s
      rw [e1, e2]
      exact ⟨q, h1.trans (List.suffix_cons _ _), h2, h3⟩
    · have e1 : hx (k + 1) n c (a :: s ++ [32]) = (n, c, a :: s ++ [32]) := by
        unfold hx
        rw [if_neg (show ¬ sHexOk (ah (a :: s ++ [32]) 0) = true from h)]
      have e2 : hx (k + 1) n c (a :: s ++ T) = (n, c, a :: s ++ T) := by
        unfold hx
        rw [if_neg (show ¬ sHexOk (ah (a :: s ++ T) 0) = true from h)]
      rw [e1, e2]
      exact ⟨a :: s, List.suffix_refl _, rfl, rfl⟩
theorem escT_bk (hT : Bk T) {s r' : List Int} (h : (escT (s ++ [32])).2 = r' ++ [32]) : escT (s ++ T) = ((escT (s ++ [32])).1, r' ++ T) := by
  cases s with
  | nil =>
    have e : (escT ([] ++ [32])).2 = [] := by decide +kernel
    rw [e] at h
    exact absurd h.symm snoc_ne
  | cons a s =>
    obtain ⟨q, _, h1, h2⟩ := hx_bk hT 6 0 0 (a :: s)
    have n1 : ¬ (a :: s ++ [32]).isEmpty = true := by simp
    have n2 : ¬ (a :: s ++ T).isEmpty = true := by simp
    unfold escT at h ⊢
    rw [if_neg n1] at h ⊢
    rw [if_neg n2, h2]
    rw [h1] at h ⊢
    simp only at h ⊢
    by_cases c0 : (hx 6 0 0 (a :: s ++ [32])).2.1 = 0
    · rw [if_pos c0] at h ⊢
      rw [if_pos c0]
      have : s = r' := snoc_inj h
      subst this
      rfl
    · rw [if_neg c0] at h ⊢
      rw [if_neg c0]
      simp only at h ⊢
      cases q with
      | nil => exact absurd h (by rw [if_pos (by decide)]; simp [dp])
      | cons b q =>
        by_cases cw : sWhite b = true
        · rw [if_pos (show sWhite (ah (b :: q ++ [32]) 0) = true from cw)] at h
          rw [if_pos (show sWhite (ah (b :: q ++ T) 0) = true from cw)]
          have : q = r' := snoc_inj h
          subst this
          rfl
        · rw [if_neg (show ¬ sWhite (ah (b :: q ++ [32]) 0) = true from cw)] at h
          rw [if_neg (show ¬ sWhite (ah (b :: q ++ T) 0) = true from cw)]
          have : b :: q = r' := snoc_inj h
          subst this
          rfl
theorem nm_bk (hT : Bk T) : ∀ (m : Nat) (s r' : List Int), s.length ≤ m → (nm (s ++ [32])).2 = r' ++ [32] → nm (s ++ T) = ((nm (s ++ [32])).1, r' ++ T)
  | _, [], r', _, h => by
    have hc := cls0 hT.ah0
    have e1 : nm ([] ++ [32]) = ([], [32]) := nm_else (by decide) (by decide)
    have e2 : nm ([] ++ T) = ([], T) := nm_else hc.1 (by rw [esc_bk hT]; decide)
    rw [e1] at h ⊢
    have : ([] : List Int) = r' := snoc_inj h
    subst this
    exact e2
  | 0, a :: s, _, h, _ => by simp at h
  | m + 1, a :: s, r', hl, h => by
    by_cases c : sName a = true
    · have e1 := nm_name (r := a :: s ++ [32]) (show sName (ah (a :: s ++ [32]) 0) = true from c)
      have e2 := nm_name (r := a :: s ++ T) (show sName (ah (a :: s ++ T) 0) = true from c)
      rw [dp_app] at e1 e2
      rw [e1] at h
      have := nm_bk hT m s r' (by simpa using hl) h
      rw [e1, e2, this]
      rfl
    · have c' : sName a = false := by simpa using c
      by_cases ce : esc (a :: s ++ [32]) 0 = true
      · have e1 := nm_esc (r := a :: s ++ [32]) (show sName (ah (a :: s ++ [32]) 0) = false from c') ce
        have e2 := nm_esc (r := a :: s ++ T) (show sName (ah (a :: s ++ T) 0) = false from c') (by rw [esc_bk hT]; exact ce)
        rw [dp_app] at e1 e2
        rw [e1] at h
        simp only at h
        rcases suf_snoc (escT_suf (s ++ [32])) with hq | ⟨q, hq, hqs⟩
        · rw [hq] at h
          have e0 : nm [] = ([], []) := nm_else (by decide) (by decide)
          rw [e0] at h
          exact absurd h.symm snoc_ne
        · have h3 := escT_bk hT hq
          rw [hq] at h
          have := nm_bk hT m q r' (by have := hqs.length_le; simp at hl; omega) h
          rw [e1, e2, h3, hq]
          simp only
          rw [this]
      · have ce' : esc (a :: s ++ [32]) 0 = false := by simpa using ce
        have e1 := nm_else (r := a :: s ++ [32]) (show sName (ah (a :: s ++ [32]) 0) = false from c') ce'
        have e2 := nm_else (r := a :: s ++ T) (show sName (ah (a :: s ++ T) 0) = false from c') (by rw [esc_bk hT]; exact ce')
        rw [e1] at h ⊢
        rw [e2]
        have : a :: s = r' := snoc_inj h
        subst this
        rfl
end
end Go.Proofs.YtfggpenfdfklkaaGreat
