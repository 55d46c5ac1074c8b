
import Derived.Test.YtlkfibjbfnaagaaDoorDmP
namespace Go.Proofs.YtlkfibjbfnaagaaDoor
/-! The order of the document, as a stack. -/
def ordF (es : List NdD) : Nat → List Nat → List Nat
  | 0, _ => []
  | n + 1, st => match st.getLast? with
    | none => []
    | some i => i :: ordF es n (st.dropLast ++ (kidsS es i).reverse)
def orderS (es : List NdD) : List Nat := if es.length = 0 then [] else ordF es es.length [0]
theorem ord_nil (es : List NdD) (n : Nat) : ordF es n [] = [] := by cases n <;> rfl
theorem ord_step (es : List NdD) (n : Nat) (st : List Nat) (i : Nat) : ordF es (n + 1) (st ++ [i]) = i :: ordF es n (st ++ (kidsS es i).reverse) := by
  rw [ordF, List.getLast?_concat]
  simp only [List.dropLast_concat]
theorem nodup_le : ∀ (n : Nat) (l : List Nat), l.Nodup → (∀ x ∈ l, x < n) → l.length ≤ n := by
  intro n
  induction n with
  | zero =>
    intro l _ h
    cases l with
    | nil => exact Nat.le_refl _
    | cons a l => exact absurd (h a (by simp)) (Nat.not_lt_zero _)
  | succ n ih =>
    intro l h1 h2
    by_cases hn : n ∈ l
    · have h3 := ih (l.erase n) (h1.erase n) (fun x hx => by
        have hxl := List.mem_of_mem_erase hx
        have hxn : x ≠ n := fun e => by
          subst e
          exact ((List.Nodup.mem_erase_iff h1).1 hx).1 rfl
        have := h2 x hxl
        omega)
      rw [List.length_erase_of_mem hn] at h3
      omega
    · have h3 := ih l h1 (fun x hx => by
        have hxn : x ≠ n := fun e => hn (e ▸ hx)
        have := h2 x hx
        omega)
      omega
structure Vis (es : List NdD) (vis st : List Nat) : Prop where
  nd : (vis ++ st).Nodup
  lt : ∀ v ∈ vis ++ st, v < es.length
  up : ∀ v ∈ vis ++ st, v = 0 ∨ ∃ u ∈ vis, ∃ hv : v < es.length, (es[v]).raw.par = (u : Int)
theorem Vis.few {es : List NdD} {vis st : List Nat} (h : Vis es vis st) : vis.length + st.length ≤ es.length := by
  have := nodup_le _ _ h.nd h.lt
  rw [List.length_append] at this
  exact this
theorem Vis.step {es : List NdD} {vis st : List Nat} {i : Nat} (h : Vis es vis (st ++ [i])) (hw : WF es) (ht : Tr es) : Vis es (vis ++ [i]) (st ++ (kidsS es i).reverse) := by
  have hi : i < es.length := h.lt i (by simp)
  have hk := kids_at hi
  rw [hk]
  have hperm : (vis ++ [i] ++ st).Perm (vis ++ (st ++ [i])) := by
    rw [List.append_assoc]
    exact List.Perm.append_left _ List.perm_append_comm
  have hnd : (vis ++ [i] ++ st).Nodup := hperm.nodup_iff.2 h.nd
  have hni : i ∉ vis := fun e => by
    rw [List.append_assoc] at hnd
    exact (List.nodup_append.1 hnd).2.2 i e i (by simp) rfl
  have hkn : ∀ k ∈ (es[i]).kids, k ∉ vis ++ [i] ++ st := fun k hkk hm => by
    have hm2 : k ∈ vis ++ (st ++ [i]) := hperm.mem_iff.1 hm
    obtain ⟨h1, h2⟩ := ht.up i hi k hkk
    have h3 := hw.kids i hi k hkk
    rcases h.up k hm2 with h0 | ⟨u, hu, _, hp⟩
    · omega
    · have : u = i := by omega
      exact hni (this ▸ hu)
  have hkd : (es[i]).kids.reverse.Nodup := by
    refine (List.reverse_perm _).nodup_iff.2 ?_
    exact (ht.rise i hi).imp (fun hab => by omega)
  refine ⟨?_, fun v hv => ?_, fun v hv => ?_⟩
  · rw [← List.append_assoc, List.nodup_append]
    refine ⟨hnd, hkd, fun a ha b hb e => ?_⟩
    subst e
    exact hkn a (by simpa using hb) ha
  · rw [← List.append_assoc, List.mem_append] at hv
    rcases hv with hv | hv
    · exact h.lt v (hperm.mem_iff.1 hv)
    · exact (hw.kids i hi v (by simpa using hv)).2
  · rw [← List.append_assoc, List.mem_append] at hv
    rcases hv with hv | hv
    · rcases h.up v (hperm.mem_iff.1 hv) with h0 | ⟨u, hu, hv2, hp⟩
      · exact .inl h0
      · exact .inr ⟨u, by simp [hu], hv2, hp⟩
    · obtain ⟨h1, h2⟩ := ht.up i hi v (by simpa using hv)
      exact .inr ⟨i, by simp, h1, h2⟩
theorem vis_zero {es : List NdD} (h : 0 < es.length) : Vis es [] [0] :=
  ⟨by simp, fun v hv => by simp at hv; omega, fun v hv => by simp at hv; exact .inl hv⟩
end Go.Proofs.YtlkfibjbfnaagaaDoor
