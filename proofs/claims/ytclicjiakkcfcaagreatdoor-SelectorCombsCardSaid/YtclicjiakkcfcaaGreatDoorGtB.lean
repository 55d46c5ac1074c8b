import Derived.Test.YtclicjiakkcfcaaGreatDoorGtA
import Derived.Test.YtclicjiakkcfcaaGreatDoorShA
namespace Go.Proofs.YtclicjiakkcfcaaGreatDoor
open Go.RowKit
def CellsOk (w : World) (P : Nat → Prop) (k : Nat) (e : List Value × List Dt) : Prop := e.1.length = k ∧ e.2.length = k ∧ ∀ i (h1 : i < e.1.length) (h2 : i < e.2.length), rdG w P e.2[i] e.1[i]
structure LsG (Q : Nat → Prop) (B : Nat) (T : TypeId) (k : Nat) (w : World) (v : Value) (ks : List (List Value × List Dt)) : Prop where
  row : w.ownsRow B T k v ks.length (ks.flatMap Prod.fst)
  ok : ∀ e ∈ ks, CellsOk w (fun b => Q b ∧ v.ownBlock ≠ some b) k e
theorem flat_atM {α : Type} (f : α → List Value) (k : Nat) : ∀ (l : List α) (_hf : ∀ x ∈ l, (f x).length = k) (j : Nat) (hj : j < l.length) (i : Nat), i < k → (l.flatMap f)[j * k + i]? = (f l[j])[i]?
  | [], _, j, hj, _, _ => by simp at hj
  | x :: l, hf, 0, _, i, hi => by
   rw [List.flatMap_cons, Nat.zero_mul, Nat.zero_add, List.getElem?_append_left (by rw [hf x (by simp)]; exact hi)]
   rfl
  | x :: l, hf, j + 1, hj, i, hi => by
   have ih := flat_atM f k l (fun y hy => hf y (List.mem_cons_of_mem _ hy)) j (by simpa using hj) i hi
   have hx := hf x (by simp)
   rw [List.flatMap_cons, List.getElem?_append_right (by rw [hx, Nat.succ_mul]; omega), hx, show (j + 1) * k + i - k = j * k + i by rw [Nat.succ_mul]; omega, ih]
   rfl
section
variable {Q : Nat → Prop} {B k : Nat} {T : TypeId} {w w1 : World} {v : Value} {ks : List (List Value × List Dt)}
theorem CellsOk.under {P : Nat → Prop} {e : List Value × List Dt} {C : Nat} (h : CellsOk w P k e) (hb : Below C w w1) (hC : w.heap.size ≤ C) : CellsOk w1 P k e := ⟨h.1, h.2.1, fun i h1 h2 => (h.2.2 i h1 h2).under hb hC⟩
theorem CellsOk.weak {P P' : Nat → Prop} {e : List Value × List Dt} (h : CellsOk w P k e) (hQ : ∀ b, b < w.heap.size → P b → P' b) : CellsOk w P' k e := ⟨h.1, h.2.1, fun i h1 h2 => (h.2.2 i h1 h2).weak hQ⟩
theorem LsG.nil (Q : Nat → Prop) (B : Nat) (T : TypeId) (k : Nat) (w : World) : LsG Q B T k w (.slice none 0 0) [] := ⟨World.ownsRow_nil _ _ _ _, fun x hx => by simp at hx⟩
theorem LsG.below (h : LsG Q B T k w v ks) (hb : Below w.heap.size w w1) : LsG Q B T k w1 v ks :=
 ⟨h.row.kept (gb_below hb none) (by cases hv : v.ownBlock with | none => exact .inl rfl | some g => exact .inr (by simp)), fun x hx => (h.ok x hx).under hb (Nat.le_refl _)⟩
theorem rdG_push {g n cap : Nat} {u : Value} {d : Dt} (hu : rdG w (fun b => Q b ∧ v.ownBlock ≠ some b) d u) (hg : w.grownBy w1 v.ownBlock) (hat : v.ownBlock = some g ∨ g = w.heap.size) :
    rdG w1 (fun b => Q b ∧ (Value.slice (some ⟨g, 0, none⟩) n cap).ownBlock ≠ some b) d u := by
  have h1 := hu.weak (Q := fun b => (Q b ∧ v.ownBlock ≠ some b) ∧ b < w.heap.size) fun _ hl hb => ⟨hb, hl⟩
  exact rdG.move (fun b _ hb => ⟨hb.1.1, row_hat hat hb.2 hb.1.2⟩) (fun b hb _ => hg.block b hb.2 fun e => hb.1.2 e.symm) hg.size d u h1
theorem LsG.push {g cap n : Nat} {e : List Value × List Dt} (h : LsG Q B T k w v ks) (hn : ks.length = n)
    (hown : w1.ownsRow B T k (.slice (some ⟨g, 0, none⟩) (n + 1) cap) (n + 1) (ks.flatMap Prod.fst ++ e.1))
    (hg : w.grownBy w1 v.ownBlock) (hat : v.ownBlock = some g ∨ g = w.heap.size) (hx : CellsOk w (fun b => Q b ∧ v.ownBlock ≠ some b) k e) :
    LsG Q B T k w1 (.slice (some ⟨g, 0, none⟩) (n + 1) cap) (ks ++ [e]) := by
  refine ⟨by rw [List.length_append, List.flatMap_append, hn]; simpa using hown, fun y hy => ?_⟩
  rw [List.mem_append] at hy
  rcases hy with hy | hy
  · exact ⟨(h.ok y hy).1, (h.ok y hy).2.1, fun i h1 h2 => rdG_push ((h.ok y hy).2.2 i h1 h2) hg hat⟩
  · simp at hy
    subst hy
    exact ⟨hx.1, hx.2.1, fun i h1 h2 => rdG_push (hx.2.2 i h1 h2) hg hat⟩
theorem LsG.rd (h : LsG Q B T k w v ks) : rdG w (fun b => Q b ∨ B ≤ b) (.sl k (ks.map Prod.snd)) v := by
 have hl := h.row.lt
 have hc := fun g hg => h.row.cells (g := g) hg
 obtain ⟨a, c, hv, hle⟩ := row_sl h.row
 rw [rdG]
 refine ⟨a, c, by rw [List.length_map]; exact hv, by rw [List.length_map]; exact hle, fun hp => ?_⟩
 rw [List.length_map] at hp
 rcases h.row.2 with ⟨h1, h0⟩ | ⟨g, cap, cur, hg, _⟩
 · omega
 · rw [hv] at hg
   injection hg with hg _ _
   subst hg
   have ho : v.ownBlock = some g := by rw [hv]; rfl
   refine ⟨g, 0, rfl, .inr (hl g ho).1, (hl g ho).2, rdRows.of _ _ fun j hj => ?_⟩
   rw [List.length_map] at hj
   have hok := h.ok ks[j] (List.getElem_mem hj)
   rw [List.getElem_map]
   refine ⟨hok.2.1, rdRow.of _ _ fun i hi => ?_⟩
   have h1 : i < (ks[j]).1.length := by rw [hok.1, ← hok.2.1]; exact hi
   have hik : i < k := by rw [← hok.1]; exact h1
   have h3 := hc g ho (j * k + i) (ks[j]).1[i] ((flat_atM Prod.fst k ks (fun x hx => (h.ok x hx).1) j hj i hik).trans (List.getElem?_eq_getElem h1))
   rw [add0] at h3
   rw [Nat.zero_add]
   exact ⟨_, h3, (hok.2.2 i h1 hi).weak fun b _ hb => .inl hb.1⟩
end
end Go.Proofs.YtclicjiakkcfcaaGreatDoor
