
import Derived.Test.YtmepalmcfolneaaSyA
import Derived.Laws.OwnMore
import Derived.Laws.Rows
namespace Go.Proofs.Ytmepalmcfolneaa
open Go.RowKit
/-! A style in a variable of the law's own, and its rows. -/
def Bx (w : World) (b : Nat) (cs : Array Value) : Prop := w.heap[b]? = some (.cells cs 28 (0, 0))
theorem Bx.lt {w : World} {b : Nat} {cs : Array Value} (h : Bx w b cs) : b < w.heap.size := (Array.getElem?_eq_some_iff.1 h).1
theorem Bx.cell {w : World} {b : Nat} {cs : Array Value} (h : Bx w b cs) (i : Nat) : w.cell? ⟨b, i, none⟩ = cs[i]? := cell_of_row w b i cs _ (0, 0) h
theorem Bx.frozen {w : World} {b : Nat} {cs : Array Value} (h : Bx w b cs) (i : Nat) : w.frozen? ⟨b, i, none⟩ = false := frozen_of_row w b i cs _ h
theorem Bx.new (w : World) (cs : Array Value) : Bx (w.alloc (.cells cs 28)) w.heap.size cs := heap_alloc_self _ _
theorem Bx.alloc {w : World} {b : Nat} {cs : Array Value} (h : Bx w b cs) (o : Obj) : Bx (w.alloc o) b cs := (Below.heap_alloc w o b h.lt).trans h
theorem Bx.below {B : Nat} {w w' : World} {b : Nat} {cs : Array Value} (h : Bx w b cs) (hb : Below B w w') (hB : b < B) : Bx w' b cs := (hb.block b hB).trans h
theorem Bx.grown {w w' : World} {b : Nat} {cs : Array Value} {row : Option Nat} (h : Bx w b cs) (hg : w.grownBy w' row) (hne : row ≠ some b) : Bx w' b cs := (hg.block b h.lt (fun e => hne e.symm)).trans h
theorem Bx.set {w : World} {b : Nat} {cs : Array Value} (h : Bx w b cs) (i : Nat) (u : Value) : Bx (w.setCell ⟨b, i, none⟩ u) b (cs.setIfInBounds i u) := by
  unfold Bx at h ⊢
  simp [World.setCell, Array.getElem?_modify, h]
theorem Bx.far {w : World} {b : Nat} {cs : Array Value} (h : Bx w b cs) {p : Addr} (hp : b ≠ p.block) (u : Value) : Bx (w.setCell p u) b cs := (heap_setCell_other w p b u hp).trans h
theorem row_ne {B : Nat} {w : World} {e : TypeId} {size n : Nat} {v : Value} {xs : List Value} {b : Nat} {cs : Array Value} (h : w.ownsRow B e size v n xs) (hx : Bx w b cs) (hne : e ≠ 28) : v.ownBlock ≠ some b := by
  rcases h.2 with ⟨rfl, _⟩ | ⟨g, cap, cur, rfl, _, hg, _⟩
  · simp [Value.ownBlock]
  · intro he
    have e2 : g = b := by simpa [Value.ownBlock] using he
    subst e2
    unfold Bx at hx
    rw [hg] at hx
    injection hx with hx
    injection hx with _ hx
    exact hne hx
theorem row_far {B : Nat} {w : World} {e : TypeId} {size n : Nat} {v : Value} {xs : List Value} (h : w.ownsRow B e size v n xs) {g o : Nat} (hne : v.ownBlock ≠ some g) (u : Value) : (w.setCell ⟨g, o, none⟩ u).ownsRow B e size v n xs :=
  h.kept (row := some g) ⟨rfl, rfl, rfl, by simp [World.setCell], fun i _ hi => heap_setCell_other w ⟨g, o, none⟩ i u (fun e => hi (by rw [e]))⟩ (.inr hne)
/-- A row of texts of the call's own. -/
abbrev OwnT (B : Nat) (w : World) (v : Value) (l : List ByteArray) : Prop := w.ownsRow B 9 1 v l.length (l.map Value.string)
theorem OwnT.nil (B : Nat) (w : World) : OwnT B w (.slice none 0 0) [] := ⟨by simp, .inl ⟨rfl, rfl⟩⟩
theorem OwnT.snoc {B : Nat} {w : World} {v : Value} {l : List ByteArray} {x : ByteArray} (h : w.ownsRow B 9 1 v (l.length + 1) (l.map Value.string ++ [.string x])) : OwnT B w v (l ++ [x]) := by
  unfold OwnT
  rw [List.length_append, List.length_singleton, List.map_append]
  exact h
theorem ownT_len {B : Nat} {w : World} {v : Value} {l : List ByteArray} (h : OwnT B w v l) : ∃ a c, v = .slice a l.length c := by
  rcases h.2 with ⟨hv, h0⟩ | ⟨g, cap, cur, hv, _⟩
  · exact ⟨none, 0, by rw [hv, h0]⟩
  · exact ⟨_, _, hv⟩
theorem OwnT.rd {B : Nat} {w : World} {v : Value} {l : List ByteArray} (h : OwnT B w v l) : RdTx w v l := by
  have hl := h.lt
  have hc := fun g hg => h.cells (g := g) hg
  rcases h.2 with ⟨rfl, h0⟩ | ⟨g, cap, cur, rfl, b, c, d, _⟩
  · exact ⟨none, 0, by rw [h0], by omega, fun hp => by omega⟩
  · refine ⟨_, cap, rfl, d, fun _ => ⟨g, 0, rfl, (hl g rfl).2, fun j hj => ?_⟩⟩
    have := hc g rfl j (.string l[j]) (by rw [List.getElem?_map, List.getElem?_eq_getElem hj]; rfl)
    have hadd : (⟨g, 0, none⟩ : Addr).add j = ⟨g, j, none⟩ := by unfold Addr.add; split <;> simp_all
    rw [hadd] at this
    rw [Nat.zero_add]
    exact this
theorem info_str : (Try.prog.info? 9).map (fun i => (i.zero, i.size, i.bytes)) = some (some (.string ⟨#[]⟩), 1, 16) := by kernel_rfl
end Go.Proofs.Ytmepalmcfolneaa
