
import Derived.Test.YtjjkifhegfpceaaDoorPtsL
import Derived.RegionTactic
import Derived.BigRegion
import Derived.Deep.Draws
namespace Go.Proofs.YtjjkifhegfpceaaDoor
open Go.RowKit

/-- The sign that is n signs on; -1: the end. -/
def ah (r : List Int) (n : Nat) : Int := r.getD n (-1)

/-- What is behind the first k signs. -/
def dp (k : Nat) (r : List Int) : List Int := r.drop k
theorem dp_len (k : Nat) (r : List Int) : (dp k r).length = r.length - k := List.length_drop
theorem dp_suf (k : Nat) (r : List Int) : dp k r <:+ r := List.drop_suffix k r
theorem dp_one (a : Int) (t : List Int) : dp 1 (a :: t) = t := rfl
theorem dp_dp (j k : Nat) (r : List Int) : dp j (dp k r) = dp (k + j) r := by unfold dp; rw [List.drop_drop]

/-- A walk over signs: block g holds a struct of two fields, the signs xs and the place; r is what is still to come. -/
structure St (T : TypeId) (g : Nat) (v : Value) (xs r : List Int) (w : World) : Prop where
  blk : w.heap[g]? = some (.cells #[v, .int .i64 ((xs.length - r.length : Nat) : Int)] T (0, 0))
  rd : Rd .i32 w v xs
  ne : 0 < xs.length → ∀ k, v.ownBlock = some k → k ≠ g
  suf : r <:+ xs
  len : xs.length ≤ 100000000
  ok : ∀ x ∈ xs, 0 ≤ x ∧ x ≤ 1114111

/-- Nothing that was there has turned but block g. -/
abbrev Gw (g : Nat) (w w' : World) : Prop := w.grownBy w' (some g)

theorem Gw.refl (g : Nat) (w : World) : Gw g w w := ⟨rfl, rfl, rfl, Nat.le_refl _, fun _ _ _ => rfl⟩
theorem Gw.trans {g : Nat} {a b c : World} (h : Gw g a b) (k : Gw g b c) : Gw g a c :=
  ⟨k.os.trans h.os, k.tape.trans h.tape, k.output.trans h.output, Nat.le_trans h.size k.size, fun i hi hne => (k.block i (Nat.lt_of_lt_of_le hi h.size) hne).trans (h.block i hi hne)⟩
theorem Gw.drewN {g : Nat} {a w : World} (h : Gw g a w) (n : Nat) : Gw g a (w.drewN n) := ⟨h.os, h.tape, h.output, h.size, h.block⟩
theorem Gw.drew {g : Nat} {a w : World} (h : Gw g a w) : Gw g a w.drew := ⟨h.os, h.tape, h.output, h.size, h.block⟩
theorem Gw.alloc {g : Nat} {a w : World} (h : Gw g a w) (o : Obj) : Gw g a (w.alloc o) :=
  ⟨h.os, h.tape, h.output, Nat.le_trans h.size (by simp), fun i hi hne => (Below.heap_alloc w o i (Nat.lt_of_lt_of_le hi h.size)).trans (h.block i hi hne)⟩
theorem Gw.set {g : Nat} {a w : World} (h : Gw g a w) {p : Addr} (hp : p.block = g ∨ a.heap.size ≤ p.block) (u : Value) : Gw g a (w.setCell p u) :=
  ⟨h.os, h.tape, h.output, by simpa [World.setCell] using h.size, fun i hi hne => (Below.heap_setCell w p u i (by
    rintro rfl
    rcases hp with hp | hp
    · exact hne (by rw [hp])
    · omega)).trans (h.block i hi hne)⟩
theorem Gw.of_below {g : Nat} {a w : World} (h : Below a.heap.size a w) : Gw g a w := ⟨h.os, h.tape, h.output, h.size, fun i hi _ => h.block i hi⟩
theorem Gw.below {g : Nat} {a w : World} (h : Gw g a w) {B : Nat} (hB : B ≤ g) (hB2 : B ≤ a.heap.size) : Below B a w :=
  ⟨h.os, h.tape, h.output, h.size, fun i hi => h.block i (by omega) (by intro e; cases e; omega)⟩
theorem Gw.cellAt {g : Nat} {a w : World} (h : Gw g a w) {p : Addr} (hp : p.block < a.heap.size) (hne : p.block ≠ g) : w.cell? p = a.cell? p :=
  World.cell?_of_block (h.block p.block hp (fun e => hne (by injection e)))

theorem Rd.move {k : IntKind} {w w' : World} {v : Value} {xs : List Int} (h : Rd k w v xs) (hb : ∀ b, v.ownBlock = some b → w'.heap[b]? = w.heap[b]?) (hs : w.heap.size ≤ w'.heap.size) : Rd k w' v xs := by
  obtain ⟨a, c, rfl, hle, h⟩ := h
  refine ⟨a, c, rfl, hle, fun hp => ?_⟩
  obtain ⟨b, off, rfl, hlt, hc⟩ := h hp
  refine ⟨b, off, rfl, Nat.lt_of_lt_of_le hlt hs, fun j hj => ?_⟩
  rw [World.cell?_of_block (w := w) (hb b rfl)]
  exact hc j hj

theorem Rd.own_lt {k : IntKind} {w : World} {v : Value} {xs : List Int} (h : Rd k w v xs) (hp : 0 < xs.length) : ∀ b, v.ownBlock = some b → b < w.heap.size := by
  obtain ⟨a, c, rfl, hle, h⟩ := h
  obtain ⟨b, off, rfl, hlt, hc⟩ := h hp
  intro b' hb'
  simp [Value.ownBlock] at hb'
  omega

theorem Rd.nil_any {k : IntKind} {w w' : World} {v : Value} (h : Rd k w v []) : Rd k w' v [] := by
  obtain ⟨a, c, rfl, hle, h⟩ := h
  exact ⟨a, c, rfl, hle, fun hp => absurd hp (by simp)⟩

section
variable {T : TypeId} {g : Nat} {v : Value} {xs r : List Int} {w w' : World}
theorem St.lt (h : St T g v xs r w) : g < w.heap.size := (Array.getElem?_eq_some_iff.1 h.blk).1
theorem St.drewN (h : St T g v xs r w) (n : Nat) : St T g v xs r (w.drewN n) := ⟨h.blk, h.rd, h.ne, h.suf, h.len, h.ok⟩
theorem St.drew (h : St T g v xs r w) : St T g v xs r w.drew := ⟨h.blk, h.rd, h.ne, h.suf, h.len, h.ok⟩
theorem St.rlen (h : St T g v xs r w) : r.length ≤ xs.length := h.suf.length_le
theorem St.rlen' (h : St T g v xs r w) : r.length ≤ 100000000 := Nat.le_trans h.suf.length_le h.len
theorem St.rok (h : St T g v xs r w) : ∀ x ∈ r, 0 ≤ x ∧ x ≤ 1114111 := fun x hx => h.ok x (h.suf.subset hx)
theorem St.drop_eq (h : St T g v xs r w) : xs.drop (xs.length - r.length) = r := by
  obtain ⟨p, rfl⟩ := h.suf
  simp
theorem St.nth_eq (h : St T g v xs r w) {n : Nat} (hn : n < r.length) : nth xs (xs.length - r.length + n) = ah r n := by
  obtain ⟨p, rfl⟩ := h.suf
  have h1 : (p ++ r).length - r.length = p.length := by simp
  rw [h1]
  simp [nth, ah, List.getD_eq_getElem?_getD, hn]
theorem St.cell0 (h : St T g v xs r w) : w.cell? ⟨g, 0, none⟩ = some v := by simp [World.cell?, h.blk]
theorem St.cell1 (h : St T g v xs r w) : w.cell? ⟨g, 1, none⟩ = some (.int .i64 ((xs.length - r.length : Nat) : Int)) := by simp [World.cell?, h.blk]
theorem St.free1 (h : St T g v xs r w) : w.frozen? ⟨g, 1, none⟩ = false := by simp [World.frozen?, h.blk]
/-- Blocks that are new, or are another's, don't matter. -/
theorem St.keep (h : St T g v xs r w) (hg : w'.heap[g]? = w.heap[g]?) (hb : 0 < xs.length → ∀ b, v.ownBlock = some b → b < w.heap.size → w'.heap[b]? = w.heap[b]?) (hs : w.heap.size ≤ w'.heap.size) : St T g v xs r w' := by
  refine ⟨hg.trans h.blk, ?_, h.ne, h.suf, h.len, h.ok⟩
  by_cases h0 : 0 < xs.length
  · exact h.rd.move (fun b hb' => hb h0 b hb' (h.rd.own_lt h0 b hb')) hs
  · have : xs = [] := List.eq_nil_of_length_eq_zero (by omega)
    subst this
    exact h.rd.nil_any
theorem St.below {B : Nat} (h : St T g v xs r w) (hb : Below B w w') (hB : w.heap.size ≤ B) : St T g v xs r w' :=
  h.keep (hb.block g (Nat.lt_of_lt_of_le h.lt hB)) (fun _ b _ hl => hb.block b (by omega)) hb.size
theorem St.alloc (h : St T g v xs r w) (o : Obj) : St T g v xs r (w.alloc o) :=
  h.below ((Below.refl _ w).alloc (Nat.le_refl _) o) (Nat.le_refl _)
/-- A write to a block that is neither the walk's nor the signs'. -/
theorem St.grown {row : Option Nat} (h : St T g v xs r w) (hg : w.grownBy w' row) (h1 : some g ≠ row) (h2 : ∀ b, v.ownBlock = some b → some b ≠ row) : St T g v xs r w' :=
  h.keep (hg.block g h.lt h1) (fun _ b hb hl => hg.block b hl (h2 b hb)) hg.size
theorem St.set (h : St T g v xs r w) {p : Addr} (u : Value) (h1 : p.block ≠ g) (h2 : ∀ b, v.ownBlock = some b → b ≠ p.block) : St T g v xs r (w.setCell p u) :=
  h.keep (Below.heap_setCell w p u g (Ne.symm h1)) (fun _ b hb _ => Below.heap_setCell w p u b (h2 b hb)) (by simp [World.setCell])
/-- The place goes on. -/
theorem St.go (h : St T g v xs r w) {r' : List Int} (hr : r' <:+ xs) {u : Value} (hu : u = .int .i64 ((xs.length - r'.length : Nat) : Int)) : St T g v xs r' (w.setCell ⟨g, 1, none⟩ u) := by
  refine ⟨?_, ?_, h.ne, hr, h.len, h.ok⟩
  · subst hu
    have := h.blk
    simp only [World.setCell, Array.getElem?_modify, this]
    simp
  · by_cases h0 : 0 < xs.length
    · exact h.rd.move (fun b hb => Below.heap_setCell _ _ _ _ (h.ne h0 b hb)) (by simp [World.setCell])
    · have : xs = [] := List.eq_nil_of_length_eq_zero (by omega)
      subst this
      exact h.rd.nil_any
end
end Go.Proofs.YtjjkifhegfpceaaDoor
namespace Go.Proofs.YtjjkifhegfpceaaDoor
open Go.RowKit

/-- Where a walk stands: what is still to come; since the world w0 nothing has turned but its place. -/
structure Now (T : TypeId) (g : Nat) (v : Value) (xs r : List Int) (w0 w : World) : Prop where
  st : St T g v xs r w
  gw : Gw g w0 w
  old : g < w0.heap.size
  vold : ∀ b, 0 < xs.length → v.ownBlock = some b → b < w0.heap.size

section
variable {T : TypeId} {g : Nat} {v : Value} {xs r r1 : List Int} {w0 w w' : World}
theorem St.now (h : St T g v xs r w) : Now T g v xs r w w := ⟨h, Gw.refl _ _, h.lt, fun b hp hb => h.rd.own_lt hp b hb⟩
theorem Now.drewN (h : Now T g v xs r w0 w) (n : Nat) : Now T g v xs r w0 (w.drewN n) := ⟨h.st.drewN n, h.gw.drewN n, h.old, h.vold⟩
theorem Now.drew (h : Now T g v xs r w0 w) : Now T g v xs r w0 w.drew := ⟨h.st.drew, h.gw.drew, h.old, h.vold⟩
theorem Now.alloc (h : Now T g v xs r w0 w) (o : Obj) : Now T g v xs r w0 (w.alloc o) := ⟨h.st.alloc o, h.gw.alloc o, h.old, h.vold⟩
/-- A write to a block that is newer than w0. -/
theorem Now.set (h : Now T g v xs r w0 w) {p : Addr} (hp : w0.heap.size ≤ p.block) (u : Value) : Now T g v xs r w0 (w.setCell p u) := by
  have hg := h.old
  refine ⟨?_, h.gw.set (.inr hp) u, h.old, h.vold⟩
  refine h.st.keep (Below.heap_setCell w p u g (by omega)) (fun h0 b hb hl => ?_) (by simp [World.setCell])
  exact Below.heap_setCell w p u b (by have := h.vold b h0 hb; omega)
/-- An append, or a make, on a row that is newer than w0. -/
theorem Now.grown (h : Now T g v xs r w0 w) {row : Option Nat} (hg : w.grownBy w' row) (hr : ∀ k, row = some k → w0.heap.size ≤ k) : Now T g v xs r w0 w' := by
  have hgo := h.old
  have hsz := h.gw.size
  refine ⟨?_, ?_, h.old, h.vold⟩
  · refine h.st.keep (hg.block g h.st.lt (fun e => by have := hr g e.symm; omega)) (fun h0 b hb hl => ?_) hg.size
    exact hg.block b hl (fun e => by have := hr b e.symm; have := h.vold b h0 hb; omega)
  · refine ⟨hg.os.trans h.gw.os, hg.tape.trans h.gw.tape, hg.output.trans h.gw.output, Nat.le_trans hsz hg.size, fun i hi hne => ?_⟩
    rw [hg.block i (by omega) (fun e => by have := hr i e.symm; omega)]
    exact h.gw.block i hi hne
theorem Now.below (h : Now T g v xs r w0 w) (hb : Below w.heap.size w w') : Now T g v xs r w0 w' :=
  h.grown (row := none) ⟨hb.os, hb.tape, hb.output, hb.size, fun k hk _ => hb.block k hk⟩ (fun k hk => by cases hk)
theorem Now.go (h : Now T g v xs r w0 w) {r' : List Int} (hr : r' <:+ xs) {u : Value} (hu : u = .int .i64 ((xs.length - r'.length : Nat) : Int)) : Now T g v xs r' w0 (w.setCell ⟨g, 1, none⟩ u) :=
  ⟨h.st.go hr hu, h.gw.set (.inl rfl) u, h.old, h.vold⟩
/-- What was there at w0, beside the walk's own block. -/
theorem Now.cellAt (h : Now T g v xs r w0 w) {p : Addr} (hp : p.block < w0.heap.size) (hne : p.block ≠ g) : w.cell? p = w0.cell? p := h.gw.cellAt hp hne
/-- From an elder world on. -/
theorem Now.since (h : Now T g v xs r w0 w) {wa : World} (ha : Now T g v xs r1 wa w0) : Now T g v xs r wa w := ⟨h.st, ha.gw.trans h.gw, ha.old, ha.vold⟩
end

section
variable {g : Nat} {v : Value} {xs r : List Int} {w0 w : World}
end
end Go.Proofs.YtjjkifhegfpceaaDoor
