
import Derived.Test.YtfpgkfpehkelcaaPtsM
namespace Go.Proofs.Ytfpgkfpehkelcaa
open Go.RowKit

theorem info_i32 : (Try.prog.info? 21).map (fun i => (i.zero, i.size, i.bytes)) = some (some (.int .i32 0), 1, 4) := by kernel_rfl

/-- What a call that reads a sheet's signs answers. -/
def Signs (s : ByteArray) (e : Ending) (w : World) : Prop := ∃ v, e = .returned v ∧ Rd .i32 w v (readS s)

/-- What holds at each round's head: B1: from where on the row is the call's own; K: the iterator's block. -/
def RdInv (B1 K : Nat) (w : World) (s : ByteArray) (sv lv : Value) (wr : World) : Prop :=
  ∃ (pos f : Nat) (last : Int) (out : List Int), pos ≤ s.size ∧ s.size ≤ pos + f ∧ lv = .int .i32 last ∧ out.length ≤ pos ∧
    wr.ownsRow B1 21 1 sv out.length (out.map (Value.int .i32)) ∧ wr.heap[K]? = some (.stringIter s pos) ∧ Below w.heap.size w wr ∧ Going s out f pos (pos == 0) (last == 13)

theorem RdInv.skip {B1 K : Nat} {w W1 : World} {s : ByteArray} {sv : Value} {pos f : Nat} {D : Nat × Nat} {last r : Int} {out : List Int} (hD : Utf8.decode s pos = D) (hp : pos < s.size) (hf : s.size ≤ pos + f) (hol : out.length ≤ pos)
    (hgo : Going s out f pos (pos == 0) (last == 13)) (ho : W1.ownsRow B1 21 1 sv out.length (out.map (Value.int .i32))) (hk : W1.heap[K]? = some (.stringIter s (pos + D.2))) (hb : Below w.heap.size w W1)
    (hw : pos + D.2 ≤ s.size) (hr : r = D.1) (hc : (((pos == 0) && (D.1 : Int) == 65279) || ((last == 13) && (D.1 : Int) == 10)) = true) : RdInv B1 K w s sv (.int .i32 r) W1 := by
  obtain ⟨f, rfl⟩ : ∃ g, f = g + 1 := ⟨f - 1, by omega⟩
  have h1 := width_pos s pos hp
  subst hD
  refine ⟨pos + (Utf8.decode s pos).2, f, r, out, hw, by omega, rfl, by omega, ho, hk, hb, ?_⟩
  have h2 := hgo.skip hp hc
  have h3 : (pos + (Utf8.decode s pos).2 == 0) = false := by simp; omega
  have h4 : (r == 13) = false := by
    rw [hr]
    generalize ((Utf8.decode s pos).1 : Int) = q at hc
    grind
  rw [h3, h4]
  exact h2

theorem RdInv.take {B1 K : Nat} {w W1 W4 : World} {s : ByteArray} {sv sv' : Value} {pos f : Nat} {D : Nat × Nat} {last r : Int} {out : List Int} (hD : Utf8.decode s pos = D) (hp : pos < s.size) (hf : s.size ≤ pos + f) (hol : out.length ≤ pos)
    (hgo : Going s out f pos (pos == 0) (last == 13)) (ho1 : W1.ownsRow B1 21 1 sv out.length (out.map (Value.int .i32))) (hk : W1.heap[K]? = some (.stringIter s (pos + D.2))) (hb : Below w.heap.size w W1)
    {x : Value} (ho : W4.ownsRow B1 21 1 sv' (out.length + 1) (out.map (Value.int .i32) ++ [.int .i32 (sPlain D.1)])) (hg : (W1.alloc (.cells #[x] 21)).grownBy W4 sv.ownBlock)
    (hB1 : w.heap.size ≤ B1) (hw : pos + D.2 ≤ s.size) (hr : r = D.1) (hc : (((pos == 0) && (D.1 : Int) == 65279) || ((last == 13) && (D.1 : Int) == 10)) = false) : RdInv B1 K w s sv' (.int .i32 r) W4 := by
  obtain ⟨f, rfl⟩ : ∃ g, f = g + 1 := ⟨f - 1, by omega⟩
  have h1 := width_pos s pos hp
  subst hD
  have hlt : K < W1.heap.size := (Array.getElem?_eq_some_iff.1 hk).1
  have hk1 : (W1.alloc (.cells #[x] 21)).heap[K]? = some (.stringIter s (pos + (Utf8.decode s pos).2)) := by rw [Below.heap_alloc _ _ _ hlt]; exact hk
  have hk4 := iter_kept (ho1.alloc (.cells #[x] 21)) hk1 hg
  have hb4 : Below w.heap.size w W4 := (hb.alloc hb.size (.cells #[x] 21)).grown hg (by have := hb.size; simp; omega) (fun k hk => by have := (ho1.lt k hk).1; omega)
  refine ⟨pos + (Utf8.decode s pos).2, f, r, out ++ [sPlain (Utf8.decode s pos).1], hw, by omega, rfl, by rw [List.length_append]; simp; omega, ?_, hk4, hb4, ?_⟩
  · rw [List.length_append, List.map_append]
    exact ho
  · have h2 := hgo.take hp hc
    have h3 : (pos + (Utf8.decode s pos).2 == 0) = false := by simp; omega
    rw [h3, hr]
    exact h2

theorem meas_skip {K pos d : Nat} {s : ByteArray} {wr W1 : World} (hk : wr.heap[K]? = some (.stringIter s pos)) (hk1 : W1.heap[K]? = some (.stringIter s (pos + d))) (hd : 1 ≤ d) (hp : pos < s.size) :
    s.size - W1.iterPos K < s.size - wr.iterPos K := by
  rw [iterPos_of hk, iterPos_of hk1]
  omega

theorem meas_take {K pos d : Nat} {s : ByteArray} {wr W1 W4 : World} {B1 e n : Nat} {sv x : Value} {l : List Value} {t : TypeId} (hk : wr.heap[K]? = some (.stringIter s pos)) (hk1 : W1.heap[K]? = some (.stringIter s (pos + d))) (hd : 1 ≤ d) (hp : pos < s.size)
    (ho1 : W1.ownsRow B1 e 1 sv n l) (hg : (W1.alloc (.cells #[x] t)).grownBy W4 sv.ownBlock) :
    s.size - W4.iterPos K < s.size - wr.iterPos K := by
  have hlt : K < W1.heap.size := (Array.getElem?_eq_some_iff.1 hk1).1
  have hk2 : (W1.alloc (.cells #[x] t)).heap[K]? = some (.stringIter s (pos + d)) := by rw [Below.heap_alloc _ _ _ hlt]; exact hk1
  exact meas_skip hk (iter_kept (ho1.alloc (.cells #[x] t)) hk2 hg) hd hp

end Go.Proofs.Ytfpgkfpehkelcaa
