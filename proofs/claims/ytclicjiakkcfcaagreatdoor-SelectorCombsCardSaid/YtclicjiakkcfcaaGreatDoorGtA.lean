import Derived.Test.YtclicjiakkcfcaaGreatDoorPtsF
import Derived.WalkKit
import Derived.BigQuiet
import Derived.Lib.Hide
import Derived.WalkSmall
namespace Go.Proofs.YtclicjiakkcfcaaGreatDoor
open Go.RowKit
def CB (T : TypeId) (w : World) (b : Nat) (cs : Array Value) : Prop := w.heap[b]? = some (.cells cs T (0, 0))
section
variable {T : TypeId} {w w' : World} {b : Nat} {cs : Array Value}
theorem CB.lt (h : CB T w b cs) : b < w.heap.size := (Array.getElem?_eq_some_iff.1 h).1
theorem CB.cell (h : CB T w b cs) (i : Nat) : w.cell? ⟨b, i, none⟩ = cs[i]? := cell_of_row w b i cs _ (0, 0) h
theorem CB.frozen (h : CB T w b cs) (i : Nat) : w.frozen? ⟨b, i, none⟩ = false := frozen_of_row w b i cs _ h
theorem CB.new (w : World) (cs : Array Value) : CB T (w.alloc (.cells cs T)) w.heap.size cs := heap_alloc_self _ _
theorem CB.alloc (h : CB T w b cs) (o : Obj) : CB T (w.alloc o) b cs := (Below.heap_alloc w o b h.lt).trans h
theorem CB.below {B : Nat} (h : CB T w b cs) (hb : Below B w w') (hB : b < B) : CB T w' b cs := (hb.block b hB).trans h
theorem CB.set (h : CB T w b cs) (i : Nat) (u : Value) : CB T (w.setCell ⟨b, i, none⟩ u) b (cs.setIfInBounds i u) := by
 unfold CB at h ⊢
 simp [World.setCell, Array.getElem?_modify, h]
theorem CB.far (h : CB T w b cs) {p : Addr} (hp : b ≠ p.block) (u : Value) : CB T (w.setCell p u) b cs := (heap_setCell_other w p b u hp).trans h
end
inductive Dt where
  | lf (v : Value)
  | sl (k : Nat) (rows : List (List Dt))
mutual
def rdG (w : World) (P : Nat → Prop) : Dt → Value → Prop
  | .lf u, v => v = u
  | .sl k rows, v => ∃ a c, v = .slice a rows.length c ∧ rows.length ≤ c ∧ (0 < rows.length → ∃ b off, a = some ⟨b, off, none⟩ ∧ P b ∧ b < w.heap.size ∧ rdRows w P k b off rows)
def rdRows (w : World) (P : Nat → Prop) (k b : Nat) : Nat → List (List Dt) → Prop
  | _, [] => True
  | off, r :: rs => r.length = k ∧ rdRow w P b off r ∧ rdRows w P k b (off + k) rs
def rdRow (w : World) (P : Nat → Prop) (b : Nat) : Nat → List Dt → Prop
  | _, [] => True
  | off, d :: ds => (∃ v, w.cell? ⟨b, off, none⟩ = some v ∧ rdG w P d v) ∧ rdRow w P b (off + 1) ds
end
mutual
theorem rdG.move {w w' : World} {P Q : Nat → Prop} (hQ : ∀ b, b < w.heap.size → P b → Q b) (hw : ∀ b, P b → b < w.heap.size → w'.heap[b]? = w.heap[b]?) (hs : w.heap.size ≤ w'.heap.size) : ∀ (d : Dt) (v : Value), rdG w P d v → rdG w' Q d v
  | .lf u, v, h => by
   rw [rdG] at h ⊢
   exact h
  | .sl k rows, v, h => by
   rw [rdG] at h ⊢
   obtain ⟨a, c, hv, hle, h⟩ := h
   refine ⟨a, c, hv, hle, fun hp => ?_⟩
   obtain ⟨b, off, ha, hP, hb, hr⟩ := h hp
   exact ⟨b, off, ha, hQ b hb hP, Nat.lt_of_lt_of_le hb hs, rdRows.move hQ hw hs k b hP hb rows off hr⟩
theorem rdRows.move {w w' : World} {P Q : Nat → Prop} (hQ : ∀ b, b < w.heap.size → P b → Q b) (hw : ∀ b, P b → b < w.heap.size → w'.heap[b]? = w.heap[b]?) (hs : w.heap.size ≤ w'.heap.size) (k b : Nat) (hP : P b) (hb : b < w.heap.size) : ∀ (rows : List (List Dt)) (off : Nat), rdRows w P k b off rows → rdRows w' Q k b off rows
  | [], _, _ => by rw [rdRows]; trivial
  | r :: rs, off, h => by
   rw [rdRows] at h ⊢
   exact ⟨h.1, rdRow.move hQ hw hs b hP hb r off h.2.1, rdRows.move hQ hw hs k b hP hb rs (off + k) h.2.2⟩
theorem rdRow.move {w w' : World} {P Q : Nat → Prop} (hQ : ∀ b, b < w.heap.size → P b → Q b) (hw : ∀ b, P b → b < w.heap.size → w'.heap[b]? = w.heap[b]?) (hs : w.heap.size ≤ w'.heap.size) (b : Nat) (hP : P b) (hb : b < w.heap.size) : ∀ (ds : List Dt) (off : Nat), rdRow w P b off ds → rdRow w' Q b off ds
  | [], _, _ => by rw [rdRow]; trivial
  | d :: ds, off, h => by
   rw [rdRow] at h ⊢
   obtain ⟨⟨v, hc, hd⟩, hr⟩ := h
   exact ⟨⟨v, (World.cell?_of_block (hw b hP hb)).trans hc, rdG.move hQ hw hs d v hd⟩, rdRow.move hQ hw hs b hP hb ds (off + 1) hr⟩
end
theorem rdG.weak {w : World} {P Q : Nat → Prop} {d : Dt} {v : Value} (h : rdG w P d v) (hQ : ∀ b, b < w.heap.size → P b → Q b) : rdG w Q d v := rdG.move hQ (fun _ _ _ => rfl) (Nat.le_refl _) d v h
theorem rdG.under {w w' : World} {P : Nat → Prop} {d : Dt} {v : Value} {B : Nat} (h : rdG w P d v) (hb : Below B w w') (hB : w.heap.size ≤ B) : rdG w' P d v := rdG.move (fun _ _ h => h) (fun b _ hl => hb.block b (by omega)) hb.size d v h
theorem rdG.nil (w : World) (P : Nat → Prop) (k : Nat) (a : Option Addr) (c : Nat) : rdG w P (.sl k []) (.slice a 0 c) := by
 rw [rdG]
 exact ⟨a, c, rfl, Nat.zero_le _, fun h => absurd h (Nat.lt_irrefl 0)⟩
theorem rdG.leaf {w : World} {P : Nat → Prop} {u v : Value} (h : rdG w P (.lf u) v) : v = u := by
 rw [rdG] at h
 exact h
theorem rdG.shape {w : World} {P : Nat → Prop} {k : Nat} {rows : List (List Dt)} {v : Value} (h : rdG w P (.sl k rows) v) : ∃ a c, v = .slice a rows.length c ∧ rows.length ≤ c := by
 rw [rdG] at h
 obtain ⟨a, c, hv, hle, _⟩ := h
 exact ⟨a, c, hv, hle⟩
theorem rdRows.at {w : World} {P : Nat → Prop} {k b : Nat} : ∀ {rows : List (List Dt)} {off : Nat}, rdRows w P k b off rows → ∀ j (hj : j < rows.length), rows[j].length = k ∧ rdRow w P b (off + j * k) rows[j]
  | r :: rs, off, h, 0, _ => by
   rw [rdRows] at h
   rw [Nat.zero_mul]
   exact ⟨h.1, h.2.1⟩
  | r :: rs, off, h, j + 1, hj => by
   rw [rdRows] at h
   have := rdRows.at h.2.2 j (by simpa using hj)
   rw [show off + (j + 1) * k = off + k + j * k by rw [Nat.succ_mul]; omega]
   exact this
theorem rdRow.at {w : World} {P : Nat → Prop} {b : Nat} : ∀ {ds : List Dt} {off : Nat}, rdRow w P b off ds → ∀ i (hi : i < ds.length), ∃ v, w.cell? ⟨b, off + i, none⟩ = some v ∧ rdG w P ds[i] v
  | d :: ds, off, h, 0, _ => by
   rw [rdRow] at h
   exact h.1
  | d :: ds, off, h, i + 1, hi => by
   rw [rdRow] at h
   have := rdRow.at h.2 i (by simpa using hi)
   rw [show off + (i + 1) = off + 1 + i by omega]
   exact this
theorem rdG.base {w : World} {P : Nat → Prop} {k : Nat} {rows : List (List Dt)} {v : Value} (h : rdG w P (.sl k rows) v) (hp : 0 < rows.length) : ∃ b off c, v = .slice (some ⟨b, off, none⟩) rows.length c ∧ rows.length ≤ c ∧ P b ∧ b < w.heap.size ∧ ∀ j (hj : j < rows.length), rows[j].length = k ∧ ∀ i (hi : i < rows[j].length), ∃ v, w.cell? ⟨b, off + j * k + i, none⟩ = some v ∧ rdG w P rows[j][i] v := by
 rw [rdG] at h
 obtain ⟨a, c, hv, hle, h⟩ := h
 obtain ⟨b, off, rfl, hP, hb, hr⟩ := h hp
 exact ⟨b, off, c, hv, hle, hP, hb, fun j hj => ⟨(hr.at j hj).1, fun i hi => (hr.at j hj).2.at i hi⟩⟩
theorem rdRow.of {w : World} {P : Nat → Prop} {b : Nat} : ∀ (ds : List Dt) (off : Nat), (∀ i (hi : i < ds.length), ∃ v, w.cell? ⟨b, off + i, none⟩ = some v ∧ rdG w P ds[i] v) → rdRow w P b off ds
  | [], _, _ => by rw [rdRow]; trivial
  | d :: ds, off, h => by
   rw [rdRow]
   refine ⟨h 0 (by simp), rdRow.of ds (off + 1) fun i hi => ?_⟩
   have := h (i + 1) (by simpa using hi)
   rw [show off + (i + 1) = off + 1 + i by omega] at this
   exact this
theorem rdRows.of {w : World} {P : Nat → Prop} {k b : Nat} : ∀ (rows : List (List Dt)) (off : Nat), (∀ j (hj : j < rows.length), rows[j].length = k ∧ rdRow w P b (off + j * k) rows[j]) → rdRows w P k b off rows
  | [], _, _ => by rw [rdRows]; trivial
  | r :: rs, off, h => by
   rw [rdRows]
   have h0 := h 0 (by simp)
   rw [Nat.zero_mul] at h0
   refine ⟨h0.1, h0.2, rdRows.of rs (off + k) fun j hj => ?_⟩
   have := h (j + 1) (by simpa using hj)
   rw [show off + (j + 1) * k = off + k + j * k by rw [Nat.succ_mul]; omega] at this
   exact this
theorem rdG.drop {w : World} {P : Nat → Prop} {k : Nat} {rows : List (List Dt)} {b off n c : Nat} (h : rdG w P (.sl k rows) (.slice (some ⟨b, off, none⟩) n c)) (i : Nat) (hi : i ≤ rows.length) : rdG w P (.sl k (rows.drop i)) (.slice (some ⟨b, off + i * k, none⟩) (n - i) (c - i)) := by
 rw [rdG] at h ⊢
 obtain ⟨a, c2, hv, hle, h⟩ := h
 injection hv with e1 e2 e3
 subst e1 e2 e3
 refine ⟨_, _, by rw [List.length_drop], by rw [List.length_drop]; omega, fun hp => ?_⟩
 rw [List.length_drop] at hp
 obtain ⟨b2, off2, e, hP, hb, hr⟩ := h (by omega)
 injection e with e
 injection e with e1 e2
 subst e1 e2
 refine ⟨_, _, rfl, hP, hb, rdRows.of _ _ fun j hj => ?_⟩
 rw [List.length_drop] at hj
 have := hr.at (i + j) (by omega)
 rw [List.getElem_drop, show off + i * k + j * k = off + (i + j) * k by rw [Nat.add_mul]; omega]
 exact this
end Go.Proofs.YtclicjiakkcfcaaGreatDoor
