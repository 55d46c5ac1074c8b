
import Derived.Test.YtkbodhhhphodiaaSyAd
import Derived.Test.YtkbodhhhphodiaaSyRg
namespace Go.Proofs.Ytkbodhhhphodiaa
open Go.RowKit
theorem set4_four (s : ByteArray) (f : Int) (sv wv wv' : Value) : (madeC4 s f sv wv).setIfInBounds 4 wv' = madeC4 s f sv wv' := by kernel_rfl
theorem set4_three (s : ByteArray) (f : Int) (sv sv' wv : Value) : (madeC4 s f sv wv).setIfInBounds 3 sv' = madeC4 s f sv' wv := by kernel_rfl
/-- The style while the law builds it, the newest ahead. -/
structure AdI (w0 : World) (b : Nat) (xs : List Int) (ns nw : Nat) (sv wv : Value) (wr : World) : Prop where
  bx : Bx wr b (madeC4 adT 1 sv wv)
  osv : OwnT w0.heap.size wr sv (sL ns)
  owv : OwnN w0.heap.size wr wv (wL xs nw)
  below : Below w0.heap.size w0 wr
  lo : w0.heap.size ≤ b
theorem AdI.alloc {w0 : World} {b : Nat} {xs : List Int} {ns nw : Nat} {sv wv : Value} {wr : World} (h : AdI w0 b xs ns nw sv wv wr) (o : Obj) : AdI w0 b xs ns nw sv wv (wr.alloc o) :=
  ⟨h.bx.alloc o, h.osv.alloc o, h.owv.alloc o, h.below.alloc h.below.size o, h.lo⟩
theorem own_lt {B : Nat} {w : World} {e : TypeId} {size n : Nat} {v : Value} {xs : List Value} (h : w.ownsRow B e size v n xs) (H : Nat) (hH : w.heap.size ≤ H) : v.ownBlock = none ∨ v.ownBlock ≠ some H := by
  cases hv : v.ownBlock with
  | none => exact .inl rfl
  | some g =>
    have := (h.lt g hv).2
    exact .inr (fun e => by injection e with e; omega)
theorem AdI.stepW {w0 : World} {b : Nat} {xs : List Int} {ns nw : Nat} {sv wv v' : Value} {wr w3 : World} {o : Obj} (h : AdI w0 b xs ns nw sv wv wr)
    (hg : (wr.alloc o).grownBy w3 (some wr.heap.size)) (hown : w3.ownsRow w0.heap.size 3 1 v' (1 + nw) ([.int .i64 (wN xs (nw + 1))] ++ (wL xs nw).map (Value.int .i64))) :
    AdI w0 b xs ns (nw + 1) sv v' (w3.setCell ⟨b, 4, none⟩ v') := by
  have hlt := h.bx.lt
  have hb1 : Bx w3 b (madeC4 adT 1 sv wv) := (h.bx.alloc o).grown hg (fun e => by injection e with e; omega)
  have hs1 := (h.osv.alloc o).kept hg (own_lt h.osv _ (Nat.le_refl _))
  have hb2 := hb1.set 4 v'
  rw [set4_four] at hb2
  refine ⟨hb2, row_far hs1 (row_ne hs1 hb1 (by decide)) v', ?_, ((h.below.alloc h.below.size o).grown hg (by have := h.below.size; simp; omega) (fun k hk => by injection hk with hk; have := h.below.size; omega)).setCell h.lo _, h.lo⟩
  have h2 := row_far hown (row_ne hown hb1 (by decide)) v' (o := 4)
  unfold OwnN
  rw [Nat.add_comm 1 nw] at h2
  rw [wL, List.length_cons, wL_len, List.map_cons]
  exact h2
theorem AdI.stepS {w0 : World} {b : Nat} {xs : List Int} {ns nw : Nat} {sv wv v' : Value} {wr w3 : World} {o1 o2 : Obj} (h : AdI w0 b xs ns nw sv wv wr)
    (hg : ((wr.alloc o1).alloc o2).grownBy w3 (some (wr.heap.size + 1))) (hown : w3.ownsRow w0.heap.size 9 1 v' (1 + ns) ([.string (letB 97 ns)] ++ (sL ns).map Value.string)) :
    AdI w0 b xs (ns + 1) nw v' wv (w3.setCell ⟨b, 3, none⟩ v') := by
  have hlt := h.bx.lt
  have hb1 : Bx w3 b (madeC4 adT 1 sv wv) := ((h.bx.alloc o1).alloc o2).grown hg (fun e => by injection e with e; omega)
  have hs1 := ((h.owv.alloc o1).alloc o2).kept hg (own_lt h.owv _ (by omega))
  have hb2 := hb1.set 3 v'
  rw [set4_three] at hb2
  have hsz := h.below.size
  refine ⟨hb2, ?_, row_far hs1 (row_ne hs1 hb1 (by decide)) v', (((h.below.alloc hsz o1).alloc (by simp; omega) o2).grown hg (by simp; omega) (fun k hk => by injection hk with hk; omega)).setCell h.lo _, h.lo⟩
  have h2 := row_far hown (row_ne hown hb1 (by decide)) v' (o := 3)
  unfold OwnT
  rw [Nat.add_comm 1 ns] at h2
  rw [sL, List.length_cons, sL_len, List.map_cons]
  exact h2
/-- A row of one, anew. -/
theorem new_int (B : Nat) (w : World) (hB : B ≤ w.heap.size) (x : Int) : (w.alloc (.cells #[.int .i64 x] 3)).ownsRow B 3 1 (.slice (some ⟨w.heap.size, 0, none⟩) 1 1) 1 [.int .i64 x] :=
  ⟨rfl, .inr ⟨w.heap.size, 1, #[.int .i64 x], rfl, hB, heap_alloc_self _ _, Nat.le_refl _, by unfold maxLen; omega, rfl, rfl⟩⟩
theorem new_str (B : Nat) (w : World) (H : Nat) (hH : w.heap.size = H) (hB : B ≤ H) (x : ByteArray) : (w.alloc (.cells #[.string x] 9)).ownsRow B 9 1 (.slice (some ⟨H, 0, none⟩) 1 1) 1 [.string x] := by
  subst hH
  exact ⟨rfl, .inr ⟨w.heap.size, 1, #[.string x], rfl, hB, heap_alloc_self _ _, Nat.le_refl _, by unfold maxLen; omega, rfl, rfl⟩⟩
end Go.Proofs.Ytkbodhhhphodiaa
