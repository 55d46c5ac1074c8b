
import Derived.Test.YtmepalmcfolneaaSyL
namespace Go.Proofs.Ytmepalmcfolneaa
open Go.RowKit
/-! Where the places of a number are. -/
theorem wz_mem {k : Nat} (hk : 1 ≤ k) : ∀ (N n : Nat), n ≤ N → ∀ x ∈ wzD k n, 0 ≤ x ∧ x < (k : Int)
  | N, 0, _, x, hx => by rw [wz_zero] at hx; cases hx
  | 0, m + 1, h, _, _ => by omega
  | N + 1, m + 1, h, x, hx => by
    rw [wz_succ, List.mem_cons] at hx
    rcases hx with rfl | hx
    · have := Nat.mod_lt m (show 0 < k by omega)
      omega
    · exact wz_mem hk N (m / k) (Nat.le_trans (Nat.div_le_self _ _) (by omega)) x hx
theorem dz_mem {k : Nat} (hk : 2 ≤ k) : ∀ (N n : Nat), n ≤ N → ∀ x ∈ dzD k n, 0 ≤ x ∧ x < (k : Int)
  | N, 0, _, x, hx => by rw [dz_zero] at hx; cases hx
  | 0, m + 1, h, _, _ => by omega
  | N + 1, m + 1, h, x, hx => by
    rw [dz_pos k (m + 1) (by omega) hk, List.mem_cons] at hx
    rcases hx with rfl | hx
    · have := Nat.mod_lt (m + 1) (show 0 < k by omega)
      omega
    · have := Nat.div_lt_self (show 0 < m + 1 by omega) (show 1 < k by omega)
      exact dz_mem hk N ((m + 1) / k) (by omega) x hx
theorem more_ok {l l' : List Int} {x K : Int} {m : Nat} (h : moreD l x m = some l') (hl : l.length ≤ 60) (hx : 0 ≤ x ∧ x < K) (hm : ∀ y ∈ l, 0 ≤ y ∧ y < K) : l'.length ≤ 60 ∧ ∀ y ∈ l', 0 ≤ y ∧ y < K := by
  unfold moreD at h
  split at h
  · cases h
  · injection h with h
    subst h
    refine ⟨by rw [List.length_append, List.length_replicate]; omega, fun y hy => ?_⟩
    rw [List.mem_append] at hy
    rcases hy with hy | hy
    · exact hm y hy
    · rw [List.mem_replicate] at hy
      rw [hy.2]; exact hx
theorem sum_ok {K : Int} : ∀ (ws : List Int) (l : List Int) (L i : Nat) (r : List Int × Nat), sumD l L i ws = some r → l.length ≤ 60 → (∀ y ∈ l, 0 ≤ y ∧ y < K) → (i + ws.length : Int) ≤ K → r.1.length ≤ 60 ∧ ∀ y ∈ r.1, 0 ≤ y ∧ y < K
  | [], l, L, i, r, h, hl, hm, _ => by
    rw [sumD] at h
    injection h with h
    subst h
    exact ⟨hl, hm⟩
  | x :: ws, l, L, i, r, h, hl, hm, hK => by
    rw [List.length_cons] at hK
    rw [sumD] at h
    split at h
    · exact sum_ok ws l L (i + 1) r h hl hm (by omega)
    · split at h
      · cases h
      · rename_i l' hmo
        have := more_ok hmo hl (K := K) ⟨by omega, by omega⟩ hm
        exact sum_ok ws l' _ (i + 1) r h this.1 this.2 (by omega)
theorem places_ok {d : DefD} {n : Int} {l : List Int} (hs : symsB d = true) (hn : nearB n = true) (h : placesD d n = some l) : l.length ≤ 60 ∧ ∀ x ∈ l, 0 ≤ x ∧ x < (d.syms.length : Int) := by
  obtain ⟨hn1, hn2⟩ := of_decide_eq_true hn
  unfold placesD at h
  split at h
  · rename_i q
    have hS := syms_cy q hs
    injection h with h
    subst h
    refine ⟨by simp, fun x hx => ?_⟩
    rw [List.mem_singleton] at hx
    subst hx
    exact ⟨Int.emod_nonneg _ (by omega), Int.emod_lt_of_pos _ (by omega)⟩
  split at h
  · rename_i q
    unfold sinceD at h
    split at h
    · injection h with h
      subst h
      refine ⟨by simp, fun x hx => ?_⟩
      rw [List.mem_singleton] at hx
      subst hx
      omega
    · cases h
  split at h
  · cases h
  split at h
  · rename_i q
    have hS := syms_sy q hs
    unfold againD at h
    split at h
    · cases h
    · refine more_ok h (by simp) ?_ (fun y hy => by cases hy)
      have := Nat.mod_lt (n.toNat - 1) (show 0 < d.syms.length by omega)
      omega
  split at h
  · rename_i q
    have hS := syms_al q hs
    unfold alphaD at h
    split at h
    · cases h
    · injection h with h
      subst h
      refine ⟨?_, fun x hx => wz_mem (by omega) n.toNat n.toNat (Nat.le_refl _) x (by simpa using hx)⟩
      have := wz_len hS.1 32 n.toNat (by omega)
      rw [List.length_reverse]; omega
  split at h
  · rename_i q
    have hS := syms_nu q hs
    injection h with h
    subst h
    have hle := Nat.div_le_self n.toNat d.syms.length
    refine ⟨?_, fun x hx => ?_⟩
    · have := dz_len hS.1 33 (n.toNat / d.syms.length) (by omega)
      rw [List.length_reverse, List.length_cons]; omega
    · rw [List.mem_reverse, List.mem_cons] at hx
      rcases hx with rfl | hx
      · have := Nat.mod_lt n.toNat (show 0 < d.syms.length by omega)
        omega
      · exact dz_mem hS.1 _ _ (Nat.le_refl _) x hx
  split at h
  · rename_i q
    have hS := syms_ad q hs
    unfold sumsD at h
    split at h
    · split at h
      · injection h with h
        subst h
        refine ⟨by simp, fun x hx => ?_⟩
        rw [List.mem_singleton] at hx
        subst hx
        omega
      · cases h
    · cases hsu : sumD [] n.toNat 0 d.wts with
      | none => rw [hsu] at h; cases h
      | some r =>
        rw [hsu] at h
        unfold endD at h
        split at h
        · rename_i h1
          cases h1
        · rename_i p h1
          injection h1 with h1
          subst h1
          split at h
          · injection h with h
            subst h
            exact sum_ok d.wts [] n.toNat 0 _ hsu (by simp) (fun y hy => by cases hy) (by omega)
          · cases h
  · cases h
theorem texts_at {d : DefD} (h : textsB d = true) {j : Nat} (hj : j < d.syms.length) : (d.syms[j]).size ≤ 100 := by
  unfold textsB at h
  rw [Bool.and_eq_true] at h
  exact of_decide_eq_true (List.all_eq_true.1 h.1 _ (List.getElem_mem hj))
theorem may_syms {d : DefD} (h : mayB d = true) : symsB d = true ∧ textsB d = true := by
  unfold mayB at h
  simp only [Bool.and_eq_true] at h
  exact ⟨h.1.1.1.1, h.1.1.1.2⟩
theorem cat_take (syms : List ByteArray) (l : List Int) (i : Nat) (h : i < l.length) : catD syms (l.take (i + 1)) = catD syms (l.take i) ++ (symAt syms (nth l i)).data.toList := by
  unfold catD
  rw [List.take_succ_eq_append_getElem h, List.flatMap_append]
  congr 1
  unfold nth
  rw [List.getD_eq_getElem?_getD, List.getElem?_eq_getElem h]
  simp
theorem cat_len {syms : List ByteArray} (hs : ∀ i, (symAt syms i).size ≤ 100) (l : List Int) : (catD syms l).length ≤ l.length * 100 := by
  unfold catD
  induction l with
  | nil => simp
  | cons x l ih =>
    rw [List.flatMap_cons, List.length_append, List.length_cons]
    have h1 := hs x
    have h2 : (symAt syms x).data.toList.length = (symAt syms x).size := by rw [Array.length_toList]; rfl
    omega
theorem sym_size {d : DefD} (h : textsB d = true) (i : Int) : (symAt d.syms i).size ≤ 100 := by
  unfold symAt
  rw [List.getD_eq_getElem?_getD]
  by_cases hi : i.toNat < d.syms.length
  · rw [List.getElem?_eq_getElem hi]
    exact texts_at h hi
  · rw [List.getElem?_eq_none (by omega)]
    exact Nat.zero_le _
end Go.Proofs.Ytmepalmcfolneaa
