
import Derived.Test.YtfggpenfdfklkaaGreatSyA
import Derived.Laws.OwnMore
import Derived.Laws.Rows
import Derived.BigRegion
import Derived.Deep.CutBlock
import Derived.Deep.Cut
namespace Go.Proofs.YtfggpenfdfklkaaGreat
open Go.RowKit
/-! A style in a variable of the law's own, and its rows. -/
theorem row_far {B : Nat} {w : World} {e : TypeId} {size n : Nat} {v : Value} {xs : List Value} (h : w.ownsRow B e size v n xs) {g o : Nat} (hne : v.ownBlock ≠ some g) (u : Value) : (w.setCell ⟨g, o, none⟩ u).ownsRow B e size v n xs :=
  h.kept (row := some g) ⟨rfl, rfl, rfl, by simp [World.setCell], fun i _ hi => heap_setCell_other w ⟨g, o, none⟩ i u (fun e => hi (by rw [e]))⟩ (.inr hne)
/-- A row of texts of the call's own. -/
abbrev OwnT (B : Nat) (w : World) (v : Value) (l : List ByteArray) : Prop := w.ownsRow B 9 1 v l.length (l.map Value.string)
theorem OwnT.nil (B : Nat) (w : World) : OwnT B w (.slice none 0 0) [] := ⟨by simp, .inl ⟨rfl, rfl⟩⟩
theorem OwnT.snoc {B : Nat} {w : World} {v : Value} {l : List ByteArray} {x : ByteArray} (h : w.ownsRow B 9 1 v (l.length + 1) (l.map Value.string ++ [.string x])) : OwnT B w v (l ++ [x]) := by
  unfold OwnT
  rw [List.length_append, List.length_singleton, List.map_append]
  exact h
theorem ownT_len {B : Nat} {w : World} {v : Value} {l : List ByteArray} (h : OwnT B w v l) : ∃ a c, v = .slice a l.length c := by
  rcases h.2 with ⟨hv, h0⟩ | ⟨g, cap, cur, hv, _⟩
  · exact ⟨none, 0, by rw [hv, h0]⟩
  · exact ⟨_, _, hv⟩
theorem OwnT.rd {B : Nat} {w : World} {v : Value} {l : List ByteArray} (h : OwnT B w v l) : RdTx w v l := by
  have hl := h.lt
  have hc := fun g hg => h.cells (g := g) hg
  rcases h.2 with ⟨rfl, h0⟩ | ⟨g, cap, cur, rfl, b, c, d, _⟩
  · exact ⟨none, 0, by rw [h0], by omega, fun hp => by omega⟩
  · refine ⟨_, cap, rfl, d, fun _ => ⟨g, 0, rfl, (hl g rfl).2, fun j hj => ?_⟩⟩
    have := hc g rfl j (.string l[j]) (by rw [List.getElem?_map, List.getElem?_eq_getElem hj]; rfl)
    have hadd : (⟨g, 0, none⟩ : Addr).add j = ⟨g, j, none⟩ := by unfold Addr.add; split <;> simp_all
    rw [hadd] at this
    rw [Nat.zero_add]
    exact this
theorem info_str : (Tryz.prog.info? 9).map (fun i => (i.zero, i.size, i.bytes)) = some (some (.string ⟨#[]⟩), 1, 16) := by kernel_rfl
end Go.Proofs.YtfggpenfdfklkaaGreat
namespace Go.Proofs.YtfggpenfdfklkaaGreat
open Go.RowKit
/-! fleuronalike.Texts. -/
theorem bytes_ne {x y : ByteArray} (h : (x.toList == y.toList) = false) : x ≠ y := fun e => by subst e; simp at h
theorem blq_go (b : ByteArray) : ∀ (n i : Nat) (r : List UInt8), b.size - i = n → ByteArray.toList.loop b i r = r.reverse ++ b.data.toList.drop i := by
  intro n
  induction n with
  | zero =>
    intro i r h
    unfold ByteArray.toList.loop
    have hz : b.size = b.data.toList.length := by rw [Array.length_toList]; rfl
    rw [if_neg (by omega), List.drop_eq_nil_of_le (by omega), List.append_nil]
  | succ n ih =>
    intro i r h
    unfold ByteArray.toList.loop
    have hz : b.size = b.data.toList.length := by rw [Array.length_toList]; rfl
    have hi : i < b.data.toList.length := by omega
    rw [if_pos (by omega), ih (i + 1) _ (by omega), List.reverse_cons, List.append_assoc, List.drop_eq_getElem_cons hi]
    congr 2
    show [b.data[i]!] ++ _ = _
    rw [getElem!_pos b.data i (by rw [← Array.length_toList]; exact hi)]
    rfl
theorem blq_data (b : ByteArray) : b.toList = b.data.toList := by
  unfold ByteArray.toList
  rw [blq_go b _ 0 [] rfl]; rfl
theorem bl_eq {x y : ByteArray} (h : (x.toList == y.toList) = true) : x = y := by
  have h1 : x.toList = y.toList := by simpa using h
  rw [blq_data, blq_data] at h1
  exact ByteArray.ext (Array.ext' h1)
end Go.Proofs.YtfggpenfdfklkaaGreat
