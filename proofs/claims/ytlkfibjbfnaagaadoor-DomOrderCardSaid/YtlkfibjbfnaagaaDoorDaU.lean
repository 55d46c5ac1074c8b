
import Derived.Test.YtlkfibjbfnaagaaDoorDmV
import Derived.Test.YtlkfibjbfnaagaaDoorDaP
import Derived.Test.YtlkfibjbfnaagaaDoorDaK
namespace Go.Proofs.YtlkfibjbfnaagaaDoor
open Go.RowKit
/-! What DomOrder asks of an order, purely. -/
structure Ord (es : List NdD) (o : List Nat) (n : Nat) : Prop where
  len : o.length = n
  lt : ∀ x ∈ o, x < n
  nodup : o.Nodup
  all : ∀ x, x < n → x ∈ o
  zero : ∀ h : 0 < o.length, o[0] = 0
  part : ∀ x, x < n → ∃ A B, o = A ++ preS es x ++ B
theorem ord_of {es : List NdD} (hw : WF es) (ht : Tr es) (h0 : 0 < es.length) : Ord es (orderS es) es.length := by
  have hp := pre_perm hw ht h0
  rw [order_pre hw ht h0]
  have hmem : ∀ x, x ∈ preS es 0 ↔ x < es.length := fun x => by rw [hp.mem_iff, List.mem_range]
  exact ⟨by rw [hp.length_eq, List.length_range], fun x hx => (hmem x).1 hx, pre_nodup hw ht h0, fun x hx => (hmem x).2 hx, fun h => by
    have e := pre_eq hw h0
    simp only [e, List.getElem_cons_zero], fun x hx => pre_part hw es.length 0 h0 (by omega) ((hmem x).2 hx)⟩
theorem idx_mid {A B : List Nat} {x : Nat} (h : (A ++ x :: B).Nodup) : (A ++ x :: B).idxOf x = A.length := by
  have hx : x ∉ A := fun hx => by
    have := (List.nodup_append.1 h).2.2 x hx x (List.mem_cons_self ..)
    exact this rfl
  rw [List.idxOf_append, if_neg hx, List.idxOf_cons_self, Nat.zero_add]
theorem Ord.idx {es : List NdD} {o : List Nat} {n : Nat} (h : Ord es o n) (i : Nat) (hi : i < o.length) : o.idxOf o[i] = i := h.nodup.idxOf_getElem i hi
theorem Ord.idx_lt {es : List NdD} {o : List Nat} {n : Nat} (h : Ord es o n) {x : Nat} (hx : x < n) : o.idxOf x < n := by
  rw [← h.len]
  exact List.idxOf_lt_length_of_mem (h.all x hx)
/-- What stands above a node stands ahead of it. -/
theorem Ord.above {es : List NdD} {o : List Nat} {n : Nat} (h : Ord es o n) (hw : WF es) (ht : Tr es) (hn : es.length = n) {x p : Nat} (hp : p < n) (ha : Anc es p x) (hne : x ≠ p) : o.idxOf p < o.idxOf x := by
  obtain ⟨A, B, hAB⟩ := h.part p hp
  have hx2 : x ∈ preS es p := (pre_mem hw ht (by omega)).2 ha
  rw [pre_eq hw (by omega)] at hx2 hAB
  have hx3 := (List.mem_cons.1 hx2).resolve_left hne
  obtain ⟨s, t, hst⟩ := List.append_of_mem hx3
  have e1 : o = A ++ p :: (s ++ x :: t ++ B) := by rw [hAB, hst]; simp
  have e2 : o = (A ++ p :: s) ++ x :: (t ++ B) := by rw [hAB, hst]; simp
  have h1 : o.idxOf p = A.length := by
    have := h.nodup
    rw [e1] at this ⊢
    exact idx_mid this
  have h2 : o.idxOf x = (A ++ p :: s).length := by
    have := h.nodup
    rw [e2] at this ⊢
    exact idx_mid this
  rw [h1, h2, List.length_append, List.length_cons]
  omega
def cntU (es : List NdD) (x m : Nat) : Nat := ((List.range m).filter fun k : Nat => underS es k x).length
theorem cntU_succ (es : List NdD) (x m : Nat) : cntU es x (m + 1) = cntU es x m + (if underS es m x = true then 1 else 0) := by
  unfold cntU
  rw [List.range_succ, List.filter_append, List.length_append]
  congr 1
  by_cases h : underS es m x = true <;> simp [h]
theorem cntU_le (es : List NdD) (x m : Nat) : cntU es x m ≤ m := by
  unfold cntU
  have := List.length_filter_le (fun k : Nat => underS es k x) (List.range m)
  rw [List.length_range] at this
  exact this
theorem Ord.cnt {es : List NdD} {o : List Nat} {n : Nat} (_h : Ord es o n) (hw : WF es) (ht : Tr es) (hn : es.length = n) {x : Nat} (hx : x < n) : cntU es x n = (preS es x).length := by
  have hp : ((List.range n).filter fun k : Nat => underS es k x).Perm (preS es x) := by
    refine (List.perm_ext_iff_of_nodup (List.nodup_range.filter _) (pre_nodup hw ht (by omega))).2 fun y => ?_
    rw [pre_mem hw ht (by omega), List.mem_filter, List.mem_range, under_iff hw]
    refine ⟨fun h => h.2.2.2, fun h => ?_⟩
    have hy : y < n := by
      cases h with
      | self => exact hx
      | up hy _ _ => omega
    exact ⟨hy, by omega, by omega, h⟩
  exact hp.length_eq
/-- All that stands from a node's place on, as many as are within it, is within it. -/
theorem Ord.within {es : List NdD} {o : List Nat} {n : Nat} (h : Ord es o n) (hw : WF es) (ht : Tr es) (hn : es.length = n) {x k : Nat} (hx : x < n) (h1 : o.idxOf x ≤ k) (h2 : k < o.idxOf x + cntU es x n) : ∃ hk : k < o.length, underS es o[k] x = true := by
  rw [h.cnt hw ht hn hx] at h2
  obtain ⟨A, B, hAB⟩ := h.part x hx
  have hi : o.idxOf x = A.length := by
    have hnd := h.nodup
    have e : o = A ++ x :: ((kidsS es x).flatMap (preS es) ++ B) := by rw [hAB, pre_eq hw (by omega)]; simp
    rw [e] at hnd ⊢
    exact idx_mid hnd
  rw [hi] at h1 h2
  have hk : k < o.length := by rw [hAB]; simp; omega
  refine ⟨hk, ?_⟩
  have hm : o[k] ∈ preS es x := by
    have e : o[k] = (preS es x)[k - A.length]'(by omega) := by
      simp only [hAB]
      rw [List.getElem_append_left (by rw [List.length_append]; omega), List.getElem_append_right h1]
    rw [e]
    exact List.getElem_mem _
  have ha := (pre_mem hw ht (by omega)).1 hm
  exact (under_iff hw).2 ⟨by have := h.lt _ (List.getElem_mem hk); omega, by omega, ha⟩
/-- The parents of DomOrder's table. -/
theorem oT_par {ps : List Int} {n : Nat} {es : List NdD} (h : newS (oT ps n) = some es) (i : Nat) (hi : i < es.length) : (es[i]).raw.par = (oF ps i).par := by
  obtain ⟨_, hl, hr⟩ := new_raw h
  have := hr i (by omega)
  rw [this, oT_at]
  rfl
end Go.Proofs.YtlkfibjbfnaagaaDoor
