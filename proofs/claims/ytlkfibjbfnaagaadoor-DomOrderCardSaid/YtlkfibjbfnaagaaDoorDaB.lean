
import Derived.Test.YtlkfibjbfnaagaaDoorDaA
namespace Go.Proofs.YtlkfibjbfnaagaaDoor
open Go.RowKit Go.Maps Go.WideMaps Go.Shelf
/-! A row of raw nodes without attributes that the law builds. -/
def rc (r : RawD) : List Value := [.int .i64 r.par, .string r.tag, .string r.text, .slice none 0 0]
theorem rc_len (r : RawD) : (rc r).length = 4 := rfl
theorem rc_at : ∀ (l : List RawD) (k j : Nat) (h : k < l.length), j < 4 → (l.flatMap rc)[k * 4 + j]? = (rc l[k])[j]?
  | t :: l, 0, j, _, hj => by
    rw [List.flatMap_cons, Nat.zero_mul, Nat.zero_add, List.getElem?_append_left (by rw [rc_len]; exact hj)]
    rfl
  | t :: l, k + 1, j, h, hj => by
    rw [List.flatMap_cons, show (k + 1) * 4 + j = 4 + (k * 4 + j) by omega, List.getElem?_append_right (by rw [rc_len]; omega), rc_len, Nat.add_sub_cancel_left]
    exact rc_at l k j (by simpa using h) hj
theorem rc_set : ∀ (l : List RawD) (k j : Nat) (u : Value) (r' : RawD) (h : k < l.length), j < 4 → (rc l[k]).set j u = rc r' → (l.flatMap rc).set (k * 4 + j) u = (l.set k r').flatMap rc
  | t :: l, 0, j, u, r', _, hj, e => by
    rw [List.flatMap_cons, Nat.zero_mul, Nat.zero_add, List.set_append_left _ _ (by rw [rc_len]; exact hj), List.set_cons_zero, List.flatMap_cons, ← e]
    rfl
  | t :: l, k + 1, j, u, r', h, hj, e => by
    rw [List.flatMap_cons, show (k + 1) * 4 + j = 4 + (k * 4 + j) by omega, List.set_append_right _ _ (by rw [rc_len]; omega), rc_len, Nat.add_sub_cancel_left, List.set_cons_succ, List.flatMap_cons]
    rw [rc_set l k j u r' (by simpa using h) hj (by simpa using e)]
theorem rc_total (l : List RawD) : (l.flatMap rc).length = l.length * 4 := by
  induction l with
  | nil => rfl
  | cons t l ih => rw [List.flatMap_cons, List.length_append, ih, rc_len, List.length_cons]; omega
def OwnR (B : Nat) (w : World) (v : Value) (l : List RawD) : Prop := w.ownsRow B 37 4 v l.length (l.flatMap rc)
theorem OwnR.rd {B : Nat} {w : World} {v : Value} {l : List RawD} (h : OwnR B w v l) (ha : ∀ r ∈ l, r.attrs = []) : RdW w v l := by
  have h' := h
  rcases h.2 with ⟨rfl, h0⟩ | ⟨g, cap, cur, rfl, _, hg, hle, _⟩
  · exact ⟨none, 0, by rw [h0], by omega, fun h => absurd h (by omega)⟩
  · refine ⟨_, cap, rfl, hle, fun _ => ⟨g, 0, rfl, (Array.getElem?_eq_some_iff.1 hg).1, fun j hj => ?_⟩⟩
    have hc : ∀ c, c < 4 → w.cell? ⟨g, 0 + j * 4 + c, none⟩ = (rc l[j])[c]? := fun c hc => by
      rw [Nat.zero_add, World.ownsRow.cellAt h' (j * 4 + c) (by omega), rc_at l j c hj hc]
    refine ⟨.slice none 0 0, ?_, (hc 0 (by decide)), hc 1 (by decide), hc 2 (by decide), hc 3 (by decide)⟩
    rw [ha _ (List.getElem_mem hj)]
    exact RdA.nil w 0 none
theorem info_raw : (Tryd.prog.info? 37).map (fun i => (i.zero, i.size, i.bytes)) = some (some (.agg #[.int .i64 0, .string ⟨#[]⟩, .string ⟨#[]⟩, .slice none 0 0]), 4, 64) := by kernel_rfl
theorem cell_four_new (w : World) (a b c d : Value) (t : TypeId) : ∀ j u, [a, b, c, d][j]? = some u → (w.alloc (.cells #[a, b, c, d] t)).cell? ((⟨w.heap.size, 0, none⟩ : Addr).add j) = some u := fun j u h => by
  have hadd : (⟨w.heap.size, 0, none⟩ : Addr).add j = ⟨w.heap.size, j, none⟩ := by unfold Addr.add; split <;> simp_all
  rw [hadd]
  unfold World.cell?
  rw [heap_alloc_self]
  have hj : j < 4 := by
    have := (List.getElem?_eq_some_iff.1 h).1
    simpa using this
  rcases (by omega : j = 0 ∨ j = 1 ∨ j = 2 ∨ j = 3) with rfl | rfl | rfl | rfl <;> simpa using h
theorem OwnR.snoc {B : Nat} {w : World} {v : Value} {l : List RawD} {r : RawD} (h : w.ownsRow B 37 4 v (l.length + 1) (l.flatMap rc ++ rc r)) : OwnR B w v (l ++ [r]) := by
  unfold OwnR
  rw [List.length_append, List.length_singleton, List.flatMap_append]
  simpa using h
theorem rc_one (r : RawD) : ∀ u ∈ rc r, u.oneCell' = true := fun u hu => by
  simp only [rc, List.mem_cons, List.not_mem_nil, or_false] at hu
  rcases hu with rfl | rfl | rfl | rfl <;> rfl
theorem OwnR.bound {B : Nat} {w : World} {l : List RawD} {g cap n : Nat} (h : OwnR B w (.slice (some ⟨g, 0, none⟩) n cap) l) : n = l.length := by
  rcases h.2 with ⟨h1, _⟩ | ⟨_, _, _, h1, _⟩
  · cases h1
  · injection h1
theorem OwnR.set {B : Nat} {w : World} {l : List RawD} {g cap : Nat} (h : OwnR B w (.slice (some ⟨g, 0, none⟩) l.length cap) l) (k j : Nat) (u : Value) (r' : RawD) (hk : k < l.length) (hj : j < 4) (e : (rc l[k]).set j u = rc r') :
    OwnR B (w.setCell ⟨g, k * 4 + j, none⟩ u) (.slice (some ⟨g, 0, none⟩) l.length cap) (l.set k r') := by
  have := (World.ownsRow.stored h (k * 4 + j) u).1
  rw [rc_set l k j u r' hk hj e] at this
  unfold OwnR
  rw [List.length_set]
  exact this
theorem OwnR.lt {B : Nat} {w : World} {v : Value} {l : List RawD} (h : OwnR B w v l) (hp : 0 < l.length) : ∃ g cap, v = .slice (some ⟨g, 0, none⟩) l.length cap ∧ B ≤ g ∧ g < w.heap.size ∧ l.length ≤ cap := by
  rcases h.2 with ⟨_, h1⟩ | ⟨g, cap, _, h1, h2, h3, h4, _⟩
  · omega
  · exact ⟨g, cap, h1, h2, (Array.getElem?_eq_some_iff.1 h3).1, h4⟩
theorem i64_bounds {n : Int} (h : (Lit.int .i64 n).wf = true) : -9223372036854775808 ≤ n ∧ n ≤ 9223372036854775807 := by
  simp only [Lit.wf, Bool.and_eq_true, decide_eq_true_eq] at h
  have h1 : IntKind.i64.min = -9223372036854775808 := by decide
  have h2 : IntKind.i64.max = 9223372036854775807 := by decide
  rw [h1, h2] at h
  exact h
theorem OwnR.lt' {B : Nat} {w : World} {v : Value} {l : List RawD} (h : OwnR B w v l) : ∀ k, v.ownBlock = some k → B ≤ k := fun k hk => (World.ownsRow.lt h k hk).1
end Go.Proofs.YtlkfibjbfnaagaaDoor
