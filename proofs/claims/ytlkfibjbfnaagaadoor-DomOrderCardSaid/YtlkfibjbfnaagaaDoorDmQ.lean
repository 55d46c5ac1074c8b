
import Derived.Test.YtlkfibjbfnaagaaDoorDmO
import Derived.Test.YtlkfibjbfnaagaaDoorDmP
import Derived.RangeFuncBound
import Derived.RangeFuncCalls
namespace Go.Proofs.YtlkfibjbfnaagaaDoor
open Go.RowKit Go.Shelf
attribute [local go_sem] Oper.semAt_some
/-- A function's return over marks alone: each mark's block is shut in turn. -/
theorem leaves_marks {F : Fence} {n : Nat} {P : Program} {fn : Func} {tmps : Array Value} {R : Ending → World → Prop} {B : Nat} : ∀ (ds : List Deferred) (Ds : List Nat) (w : World), ds.map (·.target) = Ds.map Target.collected → Ds.Nodup → (∀ D ∈ Ds, B ≤ D ∧ w.heap[D]? = some (.deferred (some []))) →
    (∀ w' : World, (∀ b : Nat, w.heap[b]? ≠ some (Obj.deferred (some [])) → w'.heap[b]? = w.heap[b]?) → Below B w w' → LeavesIn F n P fn tmps R [] .returning w') → LeavesInM F n P fn tmps R ds .returning w := by
  intro ds
  induction ds with
  | nil =>
    intro Ds w h1 _ _ h4
    exact h4 w (fun _ _ => rfl) (Below.refl _ _)
  | cons d ds ih =>
    intro Ds w h1 h2 h3 h4
    cases Ds with
    | nil => cases h1
    | cons D Ds =>
      rw [List.map_cons, List.map_cons] at h1
      injection h1 with h1 h1'
      obtain ⟨hBD, hD⟩ := h3 D (by simp)
      refine ⟨by simp, .inl ⟨D, _, h1, run_takeDeferred hD, ?_⟩⟩
      have hne : ∀ b, b ≠ D → (w.putObj D (.deferred none)).heap[b]? = w.heap[b]? := fun b hb => World.putObj_heap_other hb
      have hb1 : Below B w (w.putObj D (.deferred none)) := (Below.refl B w).grown (grownBy_putObj' w D (.deferred none)) (by have := (Array.getElem?_eq_some_iff.1 hD).1; omega) (fun k e => by cases e; exact hBD)
      refine ih Ds _ h1' (List.nodup_cons.1 h2).2 (fun D2 hD2 => ?_) (fun w' hw' hb' => ?_)
      · obtain ⟨q1, q2⟩ := h3 D2 (by simp [hD2])
        exact ⟨q1, (hne D2 (fun e => (List.nodup_cons.1 h2).1 (e ▸ hD2))).trans q2⟩
      · refine h4 w' (fun b hb => ?_) (hb1.trans hb')
        have hbD : b ≠ D := fun e => hb (e ▸ hD)
        rw [hw' b (by rw [hne b hbD]; exact hb), hne b hbD]
end Go.Proofs.YtlkfibjbfnaagaaDoor
