
import Derived.Test.YtmepalmcfolneaaSyQ2
import Derived.KernelRfl
namespace Go.Proofs.Ytmepalmcfolneaa
open Go.RowKit
/-! Rows of pairs, and what SystemRanges asks. -/
def pc (p : Int × Int) : List Value := [.int .i64 p.1, .int .i64 p.2]
theorem pc_len (r : Int × Int) : (pc r).length = 2 := rfl
theorem pc_at : ∀ (l : List (Int × Int)) (k j : Nat) (h : k < l.length), j < 2 → (l.flatMap pc)[k * 2 + j]? = (pc l[k])[j]?
  | t :: l, 0, j, _, hj => by
    rw [List.flatMap_cons, Nat.zero_mul, Nat.zero_add, List.getElem?_append_left (by rw [pc_len]; exact hj)]
    rfl
  | t :: l, k + 1, j, h, hj => by
    rw [List.flatMap_cons, show (k + 1) * 2 + j = 2 + (k * 2 + j) by omega, List.getElem?_append_right (by rw [pc_len]; omega), pc_len, Nat.add_sub_cancel_left]
    exact pc_at l k j (by simpa using h) hj
abbrev OwnP (B : Nat) (w : World) (v : Value) (l : List (Int × Int)) : Prop := w.ownsRow B 50 2 v l.length (l.flatMap pc)
theorem OwnP.nil (B : Nat) (w : World) : OwnP B w (.slice none 0 0) [] := ⟨by simp, .inl ⟨rfl, rfl⟩⟩
theorem OwnP.snoc {B : Nat} {w : World} {v : Value} {l : List (Int × Int)} {x : Int × Int} (h : w.ownsRow B 50 2 v (l.length + 1) (l.flatMap pc ++ pc x)) : OwnP B w v (l ++ [x]) := by
  unfold OwnP
  rw [List.length_append, List.length_singleton, List.flatMap_append]
  simpa using h
theorem ownP_len {B : Nat} {w : World} {v : Value} {l : List (Int × Int)} (h : OwnP B w v l) : ∃ a c, v = .slice a l.length c := by
  rcases h.2 with ⟨hv, h0⟩ | ⟨g, cap, cur, hv, _⟩
  · exact ⟨none, 0, by rw [hv, h0]⟩
  · exact ⟨_, _, hv⟩
theorem OwnP.rd {B : Nat} {w : World} {v : Value} {l : List (Int × Int)} (h : OwnP B w v l) : RdP w v l := by
  have h' := h
  rcases h.2 with ⟨rfl, h0⟩ | ⟨g, cap, cur, rfl, _, hg, hle, _⟩
  · exact ⟨none, 0, by rw [h0], by omega, fun h => absurd h (by omega)⟩
  · refine ⟨_, cap, rfl, hle, fun _ => ⟨g, 0, rfl, (Array.getElem?_eq_some_iff.1 hg).1, fun j hj => ?_⟩⟩
    have hc : ∀ c, c < 2 → w.cell? ⟨g, 0 + j * 2 + c, none⟩ = (pc l[j])[c]? := fun c hc => by
      rw [Nat.zero_add, World.ownsRow.cellAt h' (j * 2 + c) (by omega), pc_at l j c hj hc]
    exact ⟨hc 0 (by decide), hc 1 (by decide)⟩
theorem info_pair : (Try.prog.info? 50).map (fun i => (i.zero, i.size, i.bytes)) = some (some (.agg #[.int .i64 0, .int .i64 0]), 2, 16) := by kernel_rfl
/-- The pairs of a list so far. -/
def pairsN (l : List Int) (m : Nat) : List (Int × Int) := (List.range m).map fun i => (nth l (2 * i), nth l (2 * i + 1))
theorem pairs_len (l : List Int) (m : Nat) : (pairsN l m).length = m := by simp [pairsN]
theorem pairs_snoc (l : List Int) (m : Nat) : pairsN l m ++ [(nth l (2 * m), nth l (2 * m + 1))] = pairsN l (m + 1) := by simp [pairsN, List.range_succ]
def anyP (n : Int) (ps : List (Int × Int)) : Bool := ps.any fun p => decide (p.1 ≤ n) && decide (n ≤ p.2)
theorem any_snoc (n : Int) (l : List Int) (m : Nat) : anyP n (pairsN l (m + 1)) = (anyP n (pairsN l m) || (decide (nth l (2 * m) ≤ n) && decide (n ≤ nth l (2 * m + 1)))) := by
  rw [← pairs_snoc]
  unfold anyP
  rw [List.any_append]
  simp
abbrev rgD (s : ByteArray) (auto : Bool) (ps : List (Int × Int)) : DefD := ⟨⟨#[]⟩, s, 1, [], [], ⟨#[]⟩, ⟨#[]⟩, ⟨#[]⟩, ⟨#[]⟩, auto, ps, 0, ⟨#[]⟩, ⟨#[]⟩, ⟨#[]⟩, 0⟩
abbrev rgC (s : ByteArray) (auto : Bool) (rv : Value) : Array Value :=
  #[.string ⟨#[]⟩, .string s, .int .i64 1, .slice none 0 0, .slice none 0 0, .string ⟨#[]⟩, .string ⟨#[]⟩, .string ⟨#[]⟩, .string ⟨#[]⟩, .bool auto, rv, .int .i64 0, .string ⟨#[]⟩, .string ⟨#[]⟩, .string ⟨#[]⟩, .int .i64 0]
theorem rg_set (s : ByteArray) (auto : Bool) (rv rv' : Value) : (rgC s auto rv).setIfInBounds 10 rv' = rgC s auto rv' := by kernel_rfl
structure RgI (w0 : World) (b : Nat) (s : ByteArray) (auto : Bool) (rv : Value) (ps : List (Int × Int)) (wr : World) : Prop where
  bx : Bx wr b (rgC s auto rv)
  own : OwnP w0.heap.size wr rv ps
  below : Below w0.heap.size w0 wr
  lo : w0.heap.size ≤ b
theorem RgI.alloc {w0 : World} {b : Nat} {s : ByteArray} {auto : Bool} {rv : Value} {ps : List (Int × Int)} {wr : World} (h : RgI w0 b s auto rv ps wr) (o : Obj) : RgI w0 b s auto rv ps (wr.alloc o) :=
  ⟨h.bx.alloc o, h.own.alloc o, h.below.alloc h.below.size o, h.lo⟩
theorem RgI.drew {w0 : World} {b : Nat} {s : ByteArray} {auto : Bool} {rv : Value} {ps : List (Int × Int)} {wr : World} (h : RgI w0 b s auto rv ps wr) : RgI w0 b s auto rv ps wr.drew :=
  ⟨h.bx, h.own, h.below.drew, h.lo⟩
theorem RgI.step {w0 : World} {b : Nat} {s : ByteArray} {auto : Bool} {rv v' : Value} {ps : List (Int × Int)} {wr w1 : World} {x : Int × Int} (h : RgI w0 b s auto rv ps wr)
    (hown : w1.ownsRow w0.heap.size 50 2 v' (ps.length + 1) (ps.flatMap pc ++ pc x)) (hg : wr.grownBy w1 rv.ownBlock) : RgI w0 b s auto v' (ps ++ [x]) (w1.setCell ⟨b, 10, none⟩ v') := by
  have hne : rv.ownBlock ≠ some b := row_ne h.own h.bx (by decide)
  have hb1 : Bx w1 b (rgC s auto rv) := h.bx.grown hg hne
  have hne2 : v'.ownBlock ≠ some b := row_ne hown hb1 (by decide)
  have hb2 := hb1.set 10 v'
  rw [rg_set] at hb2
  exact ⟨hb2, OwnP.snoc (row_far hown hne2 v'), (h.below.grown hg h.below.size (fun k hk => (h.own.lt k hk).1)).setCell h.lo _, h.lo⟩
abbrev sysAt (i : Nat) : ByteArray := [cyT, nuT, fiT, alT, syT, adT, exT].getD i ⟨#[]⟩
/-- What the law says is in range by itself. -/
def autoN (i : Nat) (n : Int) : Bool := decide (i < 3) || (decide (i < 5) && decide (0 < n)) || (decide (i = 5) && decide (0 ≤ n))
def usesN (i : Nat) (n : Int) : Bool := decide (n < 0) && (decide (i = 1) || (decide (3 ≤ i) && decide (i ≤ 5)))
theorem auto_eq (i : Nat) (hi : i < 7) (n : Int) : autoB (sysAt i) n = autoN i n := by
  unfold autoN
  match i, hi with
  | 0, _ => first | kernel_rfl | (simp; show _ = _; kernel_rfl)
  | 1, _ => first | kernel_rfl | (simp; show _ = _; kernel_rfl)
  | 2, _ => first | kernel_rfl | (simp; show _ = _; kernel_rfl)
  | 3, _ => first | kernel_rfl | (simp; show _ = _; kernel_rfl)
  | 4, _ => first | kernel_rfl | (simp; show _ = _; kernel_rfl)
  | 5, _ => first | kernel_rfl | (simp; show _ = _; kernel_rfl)
  | 6, _ => first | kernel_rfl | (simp; show _ = _; kernel_rfl)
theorem uses_eq (i : Nat) (hi : i < 7) (n : Int) : usesB (rgD (sysAt i) true []) n = usesN i n := by
  unfold usesN
  match i, hi with
  | 0, _ => first | kernel_rfl | (simp; show _ = _; kernel_rfl)
  | 1, _ => first | kernel_rfl | (simp; show _ = _; kernel_rfl)
  | 2, _ => first | kernel_rfl | (simp; show _ = _; kernel_rfl)
  | 3, _ => first | kernel_rfl | (simp; show _ = _; kernel_rfl)
  | 4, _ => first | kernel_rfl | (simp; show _ = _; kernel_rfl)
  | 5, _ => first | kernel_rfl | (simp; show _ = _; kernel_rfl)
  | 6, _ => first | kernel_rfl | (simp; show _ = _; kernel_rfl)
end Go.Proofs.Ytmepalmcfolneaa
