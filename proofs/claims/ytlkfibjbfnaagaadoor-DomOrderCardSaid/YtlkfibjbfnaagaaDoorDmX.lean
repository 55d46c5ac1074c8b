
import Derived.Test.YtlkfibjbfnaagaaDoorDmT
namespace Go.Proofs.YtlkfibjbfnaagaaDoor
/-! A word is what stands between White, or a text's ends. -/
def TW (B : List UInt8) : Prop := B = [] ∨ ∃ b B', B = b :: B' ∧ whB b = true
def NW (w : List UInt8) : Prop := ∀ b ∈ w, whB b = false
theorem words_mem (w : List UInt8) (hne : w ≠ []) (hw : NW w) : ∀ (r cur : List UInt8), NW cur → (w ∈ wordsF cur r ↔ (∃ B, cur ++ r = w ++ B ∧ cur.length ≤ w.length ∧ TW B) ∨ ∃ A c B, r = A ++ c :: (w ++ B) ∧ whB c = true ∧ TW B)
  | [], cur, _ => by
    rw [wordsF]
    constructor
    · intro h
      split at h
      · cases h
      · rw [List.mem_singleton] at h
        subst h
        exact .inl ⟨[], rfl, Nat.le_refl _, .inl rfl⟩
    · rintro (⟨B, h1, h2, _⟩ | ⟨A, c, B, h1, _⟩)
      · rw [List.append_nil] at h1
        have hl := congrArg List.length h1
        rw [List.length_append] at hl
        obtain rfl : B = [] := List.eq_nil_of_length_eq_zero (by omega)
        rw [List.append_nil] at h1
        subst h1
        rw [if_neg hne]
        exact List.mem_singleton.2 rfl
      · cases A <;> simp at h1
  | b :: r, cur, hc => by
    rw [wordsF]
    by_cases hb : whB b = true
    · rw [if_pos hb]
      have ih := words_mem w hne hw r [] (fun _ h => by cases h)
      have hhead : (∃ B, cur ++ b :: r = w ++ B ∧ cur.length ≤ w.length ∧ TW B) ↔ w = cur := by
        constructor
        · rintro ⟨B, h1, h2, _⟩
          rcases List.append_eq_append_iff.1 h1 with ⟨a', h3, h4⟩ | ⟨a', h3, h4⟩
          · cases a' with
            | nil => rw [List.append_nil] at h3; exact h3
            | cons x a' =>
              rw [List.cons_append] at h4
              injection h4 with h4 _
              have := hw x (by rw [h3]; simp)
              rw [← h4, hb] at this
              cases this
          · have hl := congrArg List.length h3
            rw [List.length_append] at hl
            obtain rfl : a' = [] := List.eq_nil_of_length_eq_zero (by omega)
            rw [List.append_nil] at h3
            exact h3.symm
        · rintro rfl
          exact ⟨b :: r, rfl, Nat.le_refl _, .inr ⟨b, r, rfl, hb⟩⟩
      have htail : (∃ A c B, b :: r = A ++ c :: (w ++ B) ∧ whB c = true ∧ TW B) ↔ w ∈ wordsF [] r := by
        rw [ih]
        constructor
        · rintro ⟨A, c, B, h1, h2, h3⟩
          cases A with
          | nil =>
            rw [List.nil_append] at h1
            injection h1 with _ h1
            exact .inl ⟨B, h1, Nat.zero_le _, h3⟩
          | cons x A =>
            rw [List.cons_append] at h1
            injection h1 with _ h1
            exact .inr ⟨A, c, B, h1, h2, h3⟩
        · rintro (⟨B, h1, _, h3⟩ | ⟨A, c, B, h1, h2, h3⟩)
          · rw [List.nil_append] at h1
            exact ⟨[], b, B, by rw [h1]; rfl, hb, h3⟩
          · exact ⟨b :: A, c, B, by rw [h1]; rfl, h2, h3⟩
      rw [hhead, htail]
      by_cases h0 : cur = []
      · subst h0
        rw [if_pos rfl]
        exact ⟨.inr, fun h => h.resolve_left hne⟩
      · rw [if_neg h0, List.mem_cons]
    · rw [if_neg hb]
      have hb' : whB b = false := by simpa using hb
      rw [words_mem w hne hw r (cur ++ [b]) (fun x hx => by
        rw [List.mem_append, List.mem_singleton] at hx
        rcases hx with hx | rfl
        · exact hc x hx
        · exact hb')]
      constructor
      · rintro (⟨B, h1, h2, h3⟩ | ⟨A, c, B, h1, h2, h3⟩)
        · rw [List.append_assoc, List.singleton_append] at h1
          rw [List.length_append] at h2
          exact .inl ⟨B, h1, by omega, h3⟩
        · exact .inr ⟨b :: A, c, B, by rw [h1]; rfl, h2, h3⟩
      · rintro (⟨B, h1, h2, h3⟩ | ⟨A, c, B, h1, h2, h3⟩)
        · refine .inl ⟨B, by rw [List.append_assoc, List.singleton_append]; exact h1, ?_, h3⟩
          rw [List.length_append, List.length_singleton]
          rcases Nat.lt_or_eq_of_le h2 with h2 | h2
          · omega
          · obtain ⟨h4, h5⟩ := List.append_inj h1 h2
            rcases h3 with rfl | ⟨x, B', rfl, hx⟩
            · cases h5
            · injection h5 with h5 _
              rw [h5, hx] at hb'
              cases hb'
        · cases A with
          | nil =>
            rw [List.nil_append] at h1
            injection h1 with h1 _
            rw [h1, h2] at hb'
            cases hb'
          | cons x A =>
            rw [List.cons_append] at h1
            injection h1 with _ h1
            exact .inr ⟨A, c, B, h1, h2, h3⟩
theorem tw_end {B : List UInt8} (h : TW B) : ∃ d Y, B ++ [10] = d :: Y ∧ whB d = true := by
  rcases h with rfl | ⟨b, B', rfl, hb⟩
  · exact ⟨10, [], rfl, rfl⟩
  · exact ⟨b, B' ++ [10], rfl, hb⟩
theorem tw_of {v w Y : List UInt8} {d : UInt8} (hd : whB d = true) (h : v ++ [10] = w ++ d :: Y) : ∃ B, v = w ++ B ∧ TW B := by
  rcases List.eq_nil_or_concat Y with rfl | ⟨Y', y, rfl⟩
  · have h2 : v ++ [10] = w ++ [d] := h
    exact ⟨[], by rw [List.append_nil]; exact (List.append_inj' h2 rfl).1, .inl rfl⟩
  · rw [List.concat_eq_append] at h
    have h2 : v ++ [10] = (w ++ d :: Y') ++ [y] := by rw [h]; simp
    exact ⟨d :: Y', (List.append_inj' h2 rfl).1, .inr ⟨d, Y', rfl, hd⟩⟩
/-- A word is what is found between White, in the text with White at both ends. -/
theorem words_find (w v : List UInt8) (hne : w ≠ []) (hw : NW w) : w ∈ wordsF [] v ↔ ∃ X c d Y, 32 :: (v ++ [10]) = X ++ c :: (w ++ d :: Y) ∧ whB c = true ∧ whB d = true := by
  rw [words_mem w hne hw v [] (fun _ h => by cases h)]
  constructor
  · rintro (⟨B, h1, _, h3⟩ | ⟨A, c, B, h1, h2, h3⟩)
    · obtain ⟨d, Y, h4, h5⟩ := tw_end h3
      refine ⟨[], 32, d, Y, ?_, rfl, h5⟩
      rw [List.nil_append] at h1
      rw [h1, List.append_assoc, h4]; rfl
    · obtain ⟨d, Y, h4, h5⟩ := tw_end h3
      refine ⟨32 :: A, c, d, Y, ?_, h2, h5⟩
      rw [h1, ← h4]
      simp
  · rintro ⟨X, c, d, Y, h1, h2, h3⟩
    cases X with
    | nil =>
      rw [List.nil_append] at h1
      injection h1 with _ h1
      obtain ⟨B, h4, h5⟩ := tw_of h3 h1
      exact .inl ⟨B, h4, Nat.zero_le _, h5⟩
    | cons x X =>
      rw [List.cons_append] at h1
      injection h1 with _ h1
      have h6 : v ++ [10] = (X ++ c :: w) ++ d :: Y := by rw [h1]; simp
      obtain ⟨B, h4, h5⟩ := tw_of h3 h6
      exact .inr ⟨X, c, B, by rw [h4]; simp, h2, h5⟩
end Go.Proofs.YtlkfibjbfnaagaaDoor
