
import Derived.Test.YtlkfibjbfnaagaaDoorDaK
import Derived.Test.YtlkfibjbfnaagaaDoorDaT
namespace Go.Proofs.YtlkfibjbfnaagaaDoor
open Go.RowKit
theorem bef_none (es : List NdD) (n : Nat) : befF es n (-1) = [] := by
  cases n with
  | zero => rfl
  | succ n => rw [befF]; rfl
theorem bef_elems {es : List NdD} (hw : WF es) (hx : Kx es) {i : Nat} (hi : i < es.length) : ∀ (j : Nat), j ≤ (es[i]).kids.length → ∀ n : Nat, lastI (elemsOf es ((es[i]).kids.take j)) < n → befF es n (lastI (elemsOf es ((es[i]).kids.take j))) = (elemsOf es ((es[i]).kids.take j)).reverse
  | 0, _, n, _ => bef_none es n
  | j + 1, hj, n, hn => by
    obtain ⟨hk, ha⟩ := hx.ah i hi j (by omega)
    have ht : (es[i]).kids.take (j + 1) = (es[i]).kids.take j ++ [(es[i]).kids[j]] := by rw [List.take_succ_eq_append_getElem (by omega)]
    rw [ht, elems_snoc] at hn ⊢
    by_cases he : elemS es ((es[i]).kids[j] : Nat) = true
    · rw [if_pos he, lastI_snoc] at hn ⊢
      obtain ⟨n2, rfl⟩ : ∃ n2, n = n2 + 1 := ⟨n - 1, by omega⟩
      have hlt := (hw.ahead _ hk).1
      rw [bef_step hk, ha, bef_elems hw hx hi j (by omega) n2 (by rw [← ha]; omega), List.reverse_append]
      rfl
    · rw [if_neg he, List.append_nil] at hn ⊢
      exact bef_elems hw hx hi j (by omega) n hn
theorem before_eq {es : List NdD} (hw : WF es) (hx : Kx es) {i j : Nat} (hi : i < es.length) (hj : j < (es[i]).kids.length) : beforeS es ((es[i]).kids[j] : Nat) = (elemsOf es ((es[i]).kids.take j)).reverse := by
  obtain ⟨hk, ha⟩ := hx.ah i hi j hj
  rw [before_at hk, ha]
  exact bef_elems hw hx hi j (by omega) _ (by rw [← ha]; exact (hw.ahead _ hk).1)
/-- All kids of the first so many nodes. -/
def kidsUp (es : List NdD) (m : Nat) : List Nat := (List.range m).flatMap (fun i : Nat => kidsS es i)
theorem kids_up (es : List NdD) (m : Nat) : kidsUp es (m + 1) = kidsUp es m ++ kidsS es m := by
  unfold kidsUp
  rw [List.range_succ, List.flatMap_append]
  simp
theorem kidsUp_nodup {es : List NdD} (ht : Tr es) : ∀ m, m ≤ es.length → (kidsUp es m).Nodup
  | 0, _ => by unfold kidsUp; exact List.nodup_nil
  | m + 1, h => by
    rw [kids_up, List.nodup_append]
    have hm : m < es.length := by omega
    refine ⟨kidsUp_nodup ht m (by omega), by rw [kids_at hm]; exact kids_nodup ht hm, fun a ha b hb e => ?_⟩
    subst e
    unfold kidsUp at ha
    obtain ⟨i, hi, hai⟩ := List.mem_flatMap.1 ha
    have hi := List.mem_range.1 hi
    rw [kids_at (by omega)] at hai
    rw [kids_at hm] at hb
    obtain ⟨_, h1⟩ := ht.up i (by omega) a hai
    obtain ⟨_, h2⟩ := ht.up m hm a hb
    omega
theorem kidsUp_all {es : List NdD} (hw : WF es) (ht : Tr es) (h0 : 0 < es.length) : (kidsUp es es.length).length = es.length - 1 := by
  have hp : (kidsUp es es.length).Perm (List.range' 1 (es.length - 1)) := by
    refine (List.perm_ext_iff_of_nodup (kidsUp_nodup ht _ (Nat.le_refl _)) List.nodup_range').2 fun x => ?_
    rw [List.mem_range'_1]
    unfold kidsUp
    rw [List.mem_flatMap]
    constructor
    · rintro ⟨i, hi, hx⟩
      have hi := List.mem_range.1 hi
      rw [kids_at hi] at hx
      have := hw.kids i hi x hx
      omega
    · rintro ⟨h1, h2⟩
      obtain ⟨i, hi, _, hk⟩ := ht.down x (by omega) (by omega)
      exact ⟨i, List.mem_range.2 hi, by rw [kids_at hi]; exact hk⟩
  rw [hp.length_eq, List.length_range']
structure KidAt (l : List RawD) (es : List NdD) (i j K : Nat) : Prop where
  pos : 0 < K
  lt : K < l.length
  par : ∀ h : K < l.length, (l[K]).par = i
  rise : 0 < j → ∀ h2 : j - 1 < (kidsS es i).length, (kidsS es i)[j - 1] < K
  dep : depS es K = depS es i + 1
  und : underS es K i = true
  el : ∀ h : K < l.length, elemS es K = !emptyB (l[K]).tag
theorem kid_at {l : List RawD} {es : List NdD} (h : newS l = some es) {i j : Nat} (hi : i < l.length) (hj : j < (kidsS es i).length) : KidAt l es i j (kidsS es i)[j] := by
  obtain ⟨hv, ht, hl⟩ := new_ok h
  obtain ⟨hx, _, hr⟩ := new_raw h
  have hw := hv.wf
  have hi2 : i < es.length := by omega
  have hk : kidsS es i = (es[i]).kids := kids_at hi2
  simp only [hk] at hj ⊢
  have hm : (es[i]).kids[j] ∈ (es[i]).kids := List.getElem_mem hj
  obtain ⟨h1, h2⟩ := hw.kids i hi2 _ hm
  obtain ⟨_, h3⟩ := ht.up i hi2 _ hm
  obtain ⟨_, h4⟩ := hx.dp i hi2 _ hm
  refine ⟨by omega, by omega, fun h5 => ?_, fun h5 h6 => ?_, ?_, ?_, fun h5 => ?_⟩
  · have := hr _ h5
    rw [this] at h3
    exact h3
  · simp only [hk] at h6 ⊢
    exact List.pairwise_iff_getElem.1 (ht.rise i hi2) (j - 1) j h6 hj (by omega)
  · rw [dep_at h2, dep_at hi2, h4]
  · exact (under_iff hw).2 ⟨h2, hi2, Anc.of_kid ht hi2 hm .self⟩
  · rw [elem_at h2, hr _ h5]
    show (!emptyB (lowS _)) = _
    rw [low_empty]
/-- Where an element stands among its parent's. -/
theorem elem_place {es : List NdD} {ks : List Nat} {j : Nat} (hj : j < ks.length) (he : elemS es (ks[j] : Nat) = true) : ∃ h : (elemsOf es (ks.take j)).length < (elemsOf es ks).length, (elemsOf es ks)[(elemsOf es (ks.take j)).length] = ks[j] := by
  have e : ks = ks.take j ++ ks[j] :: ks.drop (j + 1) := by
    rw [← List.drop_eq_getElem_cons hj, List.take_append_drop]
  have e2 : elemsOf es ks = elemsOf es (ks.take j) ++ ks[j] :: elemsOf es (ks.drop (j + 1)) := by
    conv => lhs; rw [e]
    unfold elemsOf
    rw [List.filter_append, List.filter_cons, if_pos he]
  refine ⟨by rw [e2, List.length_append, List.length_cons]; omega, ?_⟩
  simp only [e2]
  rw [List.getElem_append_right (Nat.le_refl _)]
  simp
theorem elem_behind {es : List NdD} {ks : List Nat} {j m : Nat} (hm : m < (elemsOf es (ks.take j)).length) : ∃ h : m < (elemsOf es ks).length, (elemsOf es ks)[m] = (elemsOf es (ks.take j))[m] := by
  have e2 : elemsOf es ks = elemsOf es (ks.take j) ++ elemsOf es (ks.drop j) := by
    conv => lhs; rw [← List.take_append_drop j ks]
    unfold elemsOf
    rw [List.filter_append]
  refine ⟨by rw [e2, List.length_append]; omega, ?_⟩
  simp only [e2]
  exact List.getElem_append_left hm
theorem elems_take {es : List NdD} {ks : List Nat} {j : Nat} (hj : j < ks.length) : elemsOf es (ks.take (j + 1)) = elemsOf es (ks.take j) ++ (if elemS es (ks[j] : Nat) = true then [ks[j]] else []) := by
  rw [List.take_succ_eq_append_getElem hj, elems_snoc]
end Go.Proofs.YtlkfibjbfnaagaaDoor
