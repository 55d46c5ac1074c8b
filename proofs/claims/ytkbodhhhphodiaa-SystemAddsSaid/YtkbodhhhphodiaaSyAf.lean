
import Derived.Test.YtkbodhhhphodiaaSyAe
namespace Go.Proofs.Ytkbodhhhphodiaa
open Go.RowKit
/-! The law's own reckoning against sumD. -/
def AdW (xs : List Int) (K : Nat) (S : Option (List Int × Nat)) (j L : Nat) (W : ByteArray) : Prop :=
  (∃ l : List Int, sumD l L j ((wL xs K).drop j) = S ∧ W = txt (sL K) l ∧ l.length ≤ 60 ∧ ∀ y ∈ l, 0 ≤ y ∧ y < (K : Int)) ∨ (S = none ∧ W.size = 61)
def AdX (xs : List Int) (K : Nat) (S : Option (List Int × Nat)) (j Y L' : Nat) (W : ByteArray) : Prop :=
  (∃ (l : List Int) (t L : Nat), sumD l L j ((wL xs K).drop j) = S ∧ L' + t * Y = L ∧ W = txt (sL K) (l ++ List.replicate t (j : Int)) ∧ l.length ≤ 60 ∧ l.length + t ≤ 61 ∧ (∀ y ∈ l, 0 ≤ y ∧ y < (K : Int)) ∧ W.size = l.length + t) ∨ (S = none ∧ W.size = 61)
theorem mem_rep {l : List Int} {t j K : Nat} (h : ∀ y ∈ l, 0 ≤ y ∧ y < (K : Int)) (hj : j < K) : ∀ y ∈ l ++ List.replicate t (j : Int), 0 ≤ y ∧ y < (K : Int) := fun y hy => by
  rw [List.mem_append] at hy
  rcases hy with hy | hy
  · exact h y hy
  · rw [List.mem_replicate] at hy
    rw [hy.2]; omega
theorem adx_start {xs : List Int} {K : Nat} {S : Option (List Int × Nat)} {j Y L : Nat} {W : ByteArray} (h : AdW xs K S j L W) : AdX xs K S j Y L W := by
  rcases h with ⟨l, h1, h2, h3, h4⟩ | h
  · refine .inl ⟨l, 0, L, h1, by omega, by simpa using h2, h3, by omega, h4, ?_⟩
    rw [h2, txt_size K l h4]
    rfl
  · exact .inr h
theorem adx_step {xs : List Int} {K : Nat} {S : Option (List Int × Nat)} {j Y L' : Nat} {W : ByteArray} (hj : j < K) (h : AdX xs K S j Y L' W) (c1 : Y ≤ L') (c2 : W.size ≤ 60) : AdX xs K S j Y (L' - Y) (W ++ symAt (sL K) (j : Int)) := by
  rcases h with ⟨l, t, L, h1, h2, h3, h4, h5, h6, h7⟩ | ⟨_, h⟩
  · have e : W ++ symAt (sL K) (j : Int) = txt (sL K) (l ++ List.replicate (t + 1) (j : Int)) := by
      rw [h3, ← txt_snoc, rep_snoc]
    refine .inl ⟨l, t + 1, L, h1, ?_, e, h4, by omega, h6, ?_⟩
    · rw [Nat.succ_mul]; omega
    · rw [e, txt_size K _ (mem_rep h6 hj), List.length_append, List.length_replicate]
  · omega
theorem adx_out {xs : List Int} {K : Nat} {S : Option (List Int × Nat)} {j Y L' : Nat} {W : ByteArray} (hj : j < K) (hY : nth (wL xs K) j = (Y : Int)) (hY0 : 0 < Y) (h : AdX xs K S j Y L' W) (c : ¬ (Y ≤ L' ∧ W.size ≤ 60)) : AdW xs K S (j + 1) L' W := by
  rcases h with ⟨l, t, L, h1, h2, h3, h4, h5, h6, h7⟩ | h
  · rw [drop_nth _ j (by rw [wL_len]; exact hj), hY, sumD, if_neg (by omega), Int.toNat_natCast] at h1
    by_cases hb : L / Y ≤ 60 - l.length
    · have ht : t ≤ L / Y := by
        rw [Nat.le_div_iff_mul_le hY0]; omega
      have hs : W.size ≤ 60 := by omega
      have hlt : L' < Y := by
        rcases Nat.lt_or_ge L' Y with hh | hh
        · exact hh
        · exact absurd ⟨hh, hs⟩ c
      have e1 : L / Y = t := by
        rw [← h2]
        rw [Nat.add_mul_div_right _ _ hY0, Nat.div_eq_of_lt hlt, Nat.zero_add]
      have e2 : L % Y = L' := by
        rw [← h2, Nat.add_mul_mod_self_right, Nat.mod_eq_of_lt hlt]
      have e3 : moreD l (j : Int) (L / Y) = some (l ++ List.replicate t (j : Int)) := by
        rw [e1]
        exact if_neg (by omega)
      rw [e3, e2] at h1
      exact .inl ⟨_, h1, h3, by rw [List.length_append, List.length_replicate]; omega, mem_rep h6 hj⟩
    · have e3 : moreD l (j : Int) (L / Y) = none := if_pos (by omega)
      rw [e3] at h1
      refine .inr ⟨h1.symm, ?_⟩
      rcases Nat.lt_or_ge W.size 61 with hh | hh
      · have hlt : L' < Y := by
          rcases Nat.lt_or_ge L' Y with hx | hx
          · exact hx
          · exact absurd ⟨hx, by omega⟩ c
        have e1 : L / Y = t := by
          rw [← h2]
          rw [Nat.add_mul_div_right _ _ hY0, Nat.div_eq_of_lt hlt, Nat.zero_add]
        omega
      · omega
  · exact .inr h
theorem adw_end {xs : List Int} {K N : Nat} {S : Option (List Int × Nat)} {L : Nat} {W : ByteArray} (h : AdW xs K S K L W) (hr : rowD (adsD xs K) (N : Int) = endD S) :
    ((0 < L ∨ 60 < W.size) ∧ signsB (adsD xs K) (N : Int) = false ∧ signsT (adsD xs K) (N : Int) = ⟨#[]⟩) ∨ (L = 0 ∧ W.size ≤ 60 ∧ signsB (adsD xs K) (N : Int) = true ∧ signsT (adsD xs K) (N : Int) = W) := by
  unfold signsB signsT
  rw [hr]
  rcases h with ⟨l, h1, h2, h3, h4⟩ | ⟨h1, h2⟩
  · rw [List.drop_of_length_le (by rw [wL_len]; exact Nat.le_refl _), sumD] at h1
    rw [← h1]
    by_cases hL : L = 0
    · refine .inr ⟨hL, by rw [h2, txt_size K l h4]; exact h3, by simp [endD, hL], ?_⟩
      simp only [endD, hL, if_true]
      exact h2.symm
    · exact .inl ⟨.inl (by omega), by simp [endD, hL], by simp [endD, hL]⟩
  · rw [h1]
    exact .inl ⟨.inr (by omega), rfl, rfl⟩
theorem adw_start (xs : List Int) (K N : Nat) : AdW xs K (sumD [] N 0 (wL xs K)) 0 N ⟨#[]⟩ :=
  .inl ⟨[], rfl, rfl, Nat.zero_le _, fun y hy => by cases hy⟩
end Go.Proofs.Ytkbodhhhphodiaa
