
import Derived.Test.YtmnjopbfdocinaaPtsL
import Derived.OwnWalk
namespace Go.Proofs.Ytmnjopbfdocinaa
open Go.RowKit
/-! A slice that reads as a list of rows of k cells each, whatever they hold. -/
theorem addK0 (g j : Nat) : (⟨g, 0, none⟩ : Addr).add j = ⟨g, j, none⟩ := by unfold Addr.add; split <;> simp_all
theorem addK (g o j : Nat) : (⟨g, o, none⟩ : Addr).add j = ⟨g, o + j, none⟩ := by unfold Addr.add; split <;> simp_all
theorem flatK_at {α : Type} (f : α → List Value) (k : Nat) (hf : ∀ x, (f x).length = k) : ∀ (l : List α) (j : Nat) (hj : j < l.length) (i : Nat), i < k → (l.flatMap f)[j * k + i]? = (f l[j])[i]?
  | [], j, hj, _, _ => by simp at hj
  | x :: l, 0, _, i, hi => by
    rw [List.flatMap_cons, Nat.zero_mul, Nat.zero_add, List.getElem?_append_left (by rw [hf]; exact hi)]
    rfl
  | x :: l, j + 1, hj, i, hi => by
    have ih := flatK_at f k hf l j (by simpa using hj) i hi
    rw [List.flatMap_cons, List.getElem?_append_right (by rw [hf, Nat.succ_mul]; omega), hf, show (j + 1) * k + i - k = j * k + i by rw [Nat.succ_mul]; omega, ih]
    rfl
theorem rowK_sl {B : Nat} {w : World} {v : Value} {T : TypeId} {k n : Nat} {xs : List Value} (h : w.ownsRow B T k v n xs) : ∃ a c, v = .slice a n c ∧ n ≤ c := by
  rcases h.2 with ⟨h1, h0⟩ | ⟨g, cap, cur, hv, hb, hc, hn, _⟩
  · exact ⟨none, 0, by rw [h1, h0], by omega⟩
  · exact ⟨_, _, hv, hn⟩
def RdK {α : Type} (f : α → List Value) (k : Nat) (w : World) (v : Value) (l : List α) : Prop :=
  ∃ (a : Option Addr) (c : Nat), v = .slice a l.length c ∧ l.length ≤ c ∧ (0 < l.length → ∃ b off, a = some ⟨b, off, none⟩ ∧ b < w.heap.size ∧ ∀ j, (hj : j < l.length) → ∀ m u, (f l[j])[m]? = some u → w.cell? ⟨b, off + j * k + m, none⟩ = some u)
theorem RdK.below {α : Type} {f : α → List Value} {k : Nat} {w w' : World} {v : Value} {l : List α} (h : RdK f k w v l) (hb : Below w.heap.size w w') : RdK f k w' v l := by
  obtain ⟨a, c, hv, hle, h⟩ := h
  refine ⟨a, c, hv, hle, fun hp => ?_⟩
  obtain ⟨b, off, ha, hlt, hc⟩ := h hp
  exact ⟨b, off, ha, Nat.lt_of_lt_of_le hlt hb.size, fun j hj m u hu => (hb.cell (p := ⟨b, _, none⟩) hlt).trans (hc j hj m u hu)⟩
theorem RdK.nil {α : Type} (f : α → List Value) (k : Nat) (w : World) (a : Option Addr) (c : Nat) : RdK f k w (.slice a 0 c) [] := ⟨a, c, rfl, Nat.zero_le _, fun h => absurd h (Nat.lt_irrefl 0)⟩
theorem RdK.own {α : Type} {f : α → List Value} {k B : Nat} {T : TypeId} {w : World} {v : Value} {l : List α} (hf : ∀ x, (f x).length = k) (h : w.ownsRow B T k v l.length (l.flatMap f)) : RdK f k w v l := by
  have hl := h.lt
  have hc := fun g hg => h.cells (g := g) hg
  obtain ⟨a, c, hv, hle⟩ := rowK_sl h
  refine ⟨a, c, hv, hle, fun hp => ?_⟩
  rcases h.2 with ⟨h1, h0⟩ | ⟨g, cap, cur, hg, _⟩
  · omega
  · rw [hv] at hg
    injection hg with hg _ _
    subst hg
    have ho : v.ownBlock = some g := by rw [hv]; rfl
    refine ⟨g, 0, rfl, (hl g ho).2, fun j hj m u hu => ?_⟩
    have hm : m < k := by
      have := (List.getElem?_eq_some_iff.1 hu).1
      rw [hf] at this
      exact this
    have := hc g ho (j * k + m) u ((flatK_at f k hf l j hj m hm).trans hu)
    rw [addK0] at this
    rw [Nat.zero_add]
    exact this
theorem flat_lenK {α : Type} (f : α → List Value) (k : Nat) (hf : ∀ x, (f x).length = k) : ∀ l : List α, (l.flatMap f).length = l.length * k
  | [] => by simp
  | x :: l => by rw [List.flatMap_cons, List.length_append, hf, flat_lenK f k hf l, List.length_cons, Nat.succ_mul]; omega
theorem RdK.cell {α : Type} {f : α → List Value} {k : Nat} (hk : 0 < k) (hf : ∀ x, (f x).length = k) {w : World} {ad : Addr} {n c : Nat} {l : List α} (h : RdK f k w (.slice (some ad) n c) l) : ∀ j u, (l.flatMap f)[j]? = some u → w.cell? (ad.add j) = some u := fun j u hj => by
  have hjl := (List.getElem?_eq_some_iff.1 hj).1
  rw [flat_lenK f k hf] at hjl
  obtain ⟨a, c2, hv, _, hc⟩ := h
  injection hv with e1 _ _
  have hp : 0 < l.length := by
    rcases Nat.eq_zero_or_pos l.length with h0 | h0
    · rw [h0, Nat.zero_mul] at hjl; omega
    · exact h0
  obtain ⟨b, off, h1, _, h3⟩ := hc hp
  rw [h1] at e1
  injection e1 with e1
  subst e1
  have hadd : (⟨b, off, none⟩ : Addr).add j = ⟨b, off + j, none⟩ := by unfold Addr.add; split <;> simp_all
  rw [hadd]
  have hq : j / k < l.length := Nat.div_lt_of_lt_mul (by rw [Nat.mul_comm]; exact hjl)
  have hm : j % k < k := Nat.mod_lt _ hk
  have hjq : j = j / k * k + j % k := by rw [Nat.mul_comm]; exact (Nat.div_add_mod j k).symm
  have h4 := flatK_at f k hf l (j / k) hq (j % k) hm
  rw [← hjq] at h4
  have h5 := h3 (j / k) hq (j % k) u (h4.symm.trans hj)
  rw [Nat.add_assoc, ← hjq] at h5
  exact h5
theorem RdK.far {α : Type} {f : α → List Value} {k : Nat} {w : World} {ad : Addr} {n c : Nat} {l : List α} (h : RdK f k w (.slice (some ad) n c) l) : 0 < l.length → ad.block < w.heap.size := fun hp => by
  obtain ⟨a, c2, hv, _, hc⟩ := h
  injection hv with e1 _ _
  obtain ⟨b, off, h1, h2, _⟩ := hc hp
  rw [h1] at e1
  injection e1 with e1
  subst e1
  exact h2
theorem RdK.none0 {α : Type} {f : α → List Value} {k : Nat} {w : World} {n c : Nat} {l : List α} (h : RdK f k w (.slice none n c) l) : l = [] := by
  cases l with
  | nil => rfl
  | cons x l =>
    obtain ⟨a, c2, hv, _, hc⟩ := h
    injection hv with e1 _ _
    obtain ⟨b, off, h1, _⟩ := hc (by simp)
    rw [h1] at e1
    cases e1
end Go.Proofs.Ytmnjopbfdocinaa
