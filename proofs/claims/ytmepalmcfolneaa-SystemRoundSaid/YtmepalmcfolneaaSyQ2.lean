
import Derived.Test.YtmepalmcfolneaaSyQ
import Derived.Deep.MidRow
namespace Go.Proofs.Ytmepalmcfolneaa
open Go.RowKit
def sets (cs : Array Value) : Nat → List Value → Array Value
  | _, [] => cs
  | o, v :: r => sets (cs.setIfInBounds o v) (o + 1) r
theorem bx_sets {b : Nat} : ∀ (vs : List Value) (o : Nat) (w : World) (cs : Array Value), Bx w b cs → Bx (w.setCells b o vs) b (sets cs o vs)
  | [], _, _, _, h => h
  | v :: r, o, _, _, h => bx_sets r (o + 1) _ _ (h.set o v)
theorem sets_all (s s' : ByteArray) (f f' : Int) (sv sv' : Value) : sets (madeC s f sv) 0 (madeC s' f' sv').toList = madeC s' f' sv' := by kernel_rfl
theorem bx_all {w : World} {b : Nat} {s s' : ByteArray} {f f' : Int} {sv sv' : Value} (h : Bx w b (madeC s f sv)) : Bx (w.setCells b 0 (madeC s' f' sv').toList) b (madeC s' f' sv') := by
  have h1 := bx_sets (madeC s' f' sv').toList 0 w _ h
  rw [sets_all] at h1
  exact h1
theorem bx_there {w : World} {b : Nat} {s : ByteArray} {f : Int} {sv : Value} (h : Bx w b (madeC s f sv)) : w.there b 0 16 := fun j hj => by
  rw [Nat.zero_add, h.cell, h.frozen]
  refine ⟨?_, rfl⟩
  have : j < (madeC s f sv).size := hj
  rw [Array.getElem?_eq_getElem this]
  rfl
theorem def_size : (Try.prog.info? 28).map (·.size) = some 16 := by kernel_rfl
theorem sets_size {b : Nat} : ∀ (vs : List Value) (o : Nat) (w : World), w.heap.size ≤ (w.setCells b o vs).heap.size
  | [], _, _ => Nat.le_refl _
  | v :: r, o, w => Nat.le_trans (by simp [World.setCell]) (sets_size r (o + 1) (w.setCell ⟨b, o, none⟩ v))
theorem sets_below {B b : Nat} {a : World} (hb : B ≤ b) : ∀ (vs : List Value) (o : Nat) (w : World), Below B a w → Below B a (w.setCells b o vs)
  | [], _, _, h => h
  | v :: r, o, _, h => sets_below hb r (o + 1) _ (h.setCell (p := ⟨b, o, none⟩) hb v)
abbrev madeC4 (s : ByteArray) (f : Int) (sv wv : Value) : Array Value :=
  #[.string ⟨#[]⟩, .string s, .int .i64 f, sv, wv, .string ⟨#[]⟩, .string ⟨#[]⟩, .string ⟨#[]⟩, .string ⟨#[]⟩, .bool true, .slice none 0 0, .int .i64 0, .string ⟨#[]⟩, .string ⟨#[]⟩, .string ⟨#[]⟩, .int .i64 0]
theorem set_four (s : ByteArray) (f : Int) (sv wv : Value) : (madeC s f sv).setIfInBounds 4 wv = madeC4 s f sv wv := by kernel_rfl
theorem one_all (s : ByteArray) (f : Int) (a : Option Addr) (n c : Nat) : (madeC s f (.slice a n c)).all (·.oneCell') = true := by kernel_rfl
theorem rdT_sets {w : World} {b H n c : Nat} {vs : List Value} {l : List ByteArray} (h : RdTx w (.slice (some ⟨H, 0, none⟩) n c) l) (hne : H ≠ b) : RdTx (w.setCells b 0 vs) (.slice (some ⟨H, 0, none⟩) n c) l := by
  obtain ⟨a, c', hv, hle, hx⟩ := h
  refine ⟨a, c', hv, hle, fun hp => ?_⟩
  obtain ⟨g, off, ha, hlt, hc⟩ := hx hp
  injection hv with hv _ _
  rw [ha] at hv
  injection hv with hv
  injection hv with hg ho
  refine ⟨g, off, ha, ?_, fun j hj => ?_⟩
  · exact Nat.lt_of_lt_of_le hlt (sets_size vs 0 w)
  · rw [World.cell?_setCells_out b vs 0 w _ (fun hb _ => absurd (show H = b by rw [hg]; exact hb) hne)]
    exact hc j hj
theorem rdT_far {w : World} {b o H n c : Nat} {u : Value} {l : List ByteArray} (h : RdTx w (.slice (some ⟨H, 0, none⟩) n c) l) (hne : H ≠ b) : RdTx (w.setCell ⟨b, o, none⟩ u) (.slice (some ⟨H, 0, none⟩) n c) l := by
  obtain ⟨a, c', hv, hle, hx⟩ := h
  refine ⟨a, c', hv, hle, fun hp => ?_⟩
  obtain ⟨g, off, ha, hlt, hc⟩ := hx hp
  injection hv with hv _ _
  rw [ha] at hv
  injection hv with hv
  injection hv with hg ho
  refine ⟨g, off, ha, by simpa [World.setCell] using hlt, fun j hj => ?_⟩
  rw [World.cell?_setCell_other _ _ _ _ (fun e => hne (by rw [hg]; injection e with e _; exact e.symm))]
  exact hc j hj
theorem rdI_far {w : World} {b o H n c : Nat} {u : Value} {l : List Int} (h : Rd .i64 w (.slice (some ⟨H, 0, none⟩) n c) l) (hne : H ≠ b) : Rd .i64 (w.setCell ⟨b, o, none⟩ u) (.slice (some ⟨H, 0, none⟩) n c) l := by
  obtain ⟨a, c', hv, hle, hx⟩ := h
  refine ⟨a, c', hv, hle, fun hp => ?_⟩
  obtain ⟨g, off, ha, hlt, hc⟩ := hx hp
  injection hv with hv _ _
  rw [ha] at hv
  injection hv with hv
  injection hv with hg ho
  refine ⟨g, off, ha, by simpa [World.setCell] using hlt, fun j hj => ?_⟩
  rw [World.cell?_setCell_other _ _ _ _ (fun e => hne (by rw [hg]; injection e with e _; exact e.symm))]
  exact hc j hj
theorem rdI_two (w : World) (t : TypeId) (x y : Int) (H : Nat) (hH : w.heap.size = H) : Rd .i64 (w.alloc (.cells #[.int .i64 x, .int .i64 y] t)) (.slice (some ⟨H, 0, none⟩) 2 2) [x, y] := by
  subst hH
  refine ⟨_, 2, rfl, Nat.le_refl _, fun _ => ⟨_, 0, rfl, by simp, fun j hj => ?_⟩⟩
  unfold World.cell?
  rw [heap_alloc_self]
  have hj5 : j < 2 := hj
  rcases (by omega : j = 0 ∨ j = 1) with rfl | rfl <;> rfl
end Go.Proofs.Ytmepalmcfolneaa
