
import Derived.Test.YtkpaokcgjeplpaaDoorDeB
namespace Go.Proofs.YtkpaokcgjeplpaaDoor
open Go.RowKit
def numdT (x y : Tok) : Int × ByteArray × Bool := if ((numS x).2 && (symS y).2 && decide (0 ≤ (numS x).1)) = true then ((numS x).1, (symS y).1, true) else (0, ⟨#[]⟩, false)
def numdS (l : List Nd) : Int × ByteArray × Bool := match l with
  | [x, y] => if (x.tok.kind == 10) = true then numdT x.tok y.tok else numdT y.tok x.tok
  | _ => (0, ⟨#[]⟩, false)
theorem numdS_no {l : List Nd} (h : l.length ≠ 2) : numdS l = (0, ⟨#[]⟩, false) := by
  unfold numdS
  split
  · exact absurd rfl h
  · rfl
theorem CB.farS {T : TypeId} {b g : Nat} {cs : Array Value} (hn : b ≠ g) : ∀ (vs : List Value) (o : Nat) (w : World), CB T w b cs → CB T (w.setCells g o vs) b cs
  | [], _, _, h => h
  | v :: r, o, _, h => CB.farS hn r (o + 1) _ (h.far (p := ⟨g, o, none⟩) hn v)
def csets (cs : Array Value) : Nat → List Value → Array Value
  | _, [] => cs
  | o, v :: r => csets (cs.setIfInBounds o v) (o + 1) r
theorem CB.sets {T : TypeId} {b : Nat} : ∀ (vs : List Value) (o : Nat) (w : World) (cs : Array Value), CB T w b cs → CB T (w.setCells b o vs) b (csets cs o vs)
  | [], _, _, _, h => h
  | v :: r, o, _, _, h => CB.sets r (o + 1) _ _ (h.set o v)
theorem csets7 (t u : Tok) (x y : Value) : csets (nodeC t x) 0 (nodeC u y).toList = nodeC u y := by kernel_rfl
theorem CB.all7 {w : World} {b : Nat} {t u : Tok} {x y : Value} (h : CB 86 w b (nodeC t x)) : CB 86 (w.setCells b 0 (nodeC u y).toList) b (nodeC u y) := by
  have h1 := CB.sets (nodeC u y).toList 0 w _ h
  rw [csets7] at h1
  exact h1
theorem CB.there7 {w : World} {b : Nat} {t : Tok} {x : Value} (h : CB 86 w b (nodeC t x)) : w.there b 0 7 := fun j hj => by
  rw [Nat.zero_add, h.cell, h.frozen]
  refine ⟨?_, rfl⟩
  have : j < (nodeC t x).size := hj
  rw [Array.getElem?_eq_getElem this]
  rfl
theorem node_size : (Tryd.prog.info? 86).map (·.size) = some 7 := by kernel_rfl
theorem node_one (t : Tok) (a : Option Addr) (n c : Nat) : (nodeC t (.slice a n c)).all (·.oneCell') = true := by kernel_rfl
theorem setsS_below {B b : Nat} {a : World} (hb : B ≤ b) : ∀ (vs : List Value) (o : Nat) (w : World), Below B a w → Below B a (w.setCells b o vs)
  | [], _, _, h => h
  | v :: r, o, _, h => setsS_below hb r (o + 1) _ (h.setCell (p := ⟨b, o, none⟩) hb v)
theorem two_nodes (w : World) (t u : Tok) (x y : Value) :
    CB 86 ((w.alloc (.cells (nodeC t x) 86)).alloc (.cells (nodeC u y) 86)).drew w.heap.size (nodeC t x) ∧ CB 86 ((w.alloc (.cells (nodeC t x) 86)).alloc (.cells (nodeC u y) 86)).drew (w.heap.size + 1) (nodeC u y) ∧ Below w.heap.size w ((w.alloc (.cells (nodeC t x) 86)).alloc (.cells (nodeC u y) 86)).drew := by
  have hh := CB.new (T := 86) (w.alloc (.cells (nodeC t x) 86)) (nodeC u y)
  rw [show (w.alloc (.cells (nodeC t x) 86)).heap.size = w.heap.size + 1 by simp] at hh
  exact ⟨(CB.new (T := 86) w (nodeC t x)).alloc _, hh, (((Below.refl w.heap.size w).alloc (Nat.le_refl _) _).alloc (by simp) _).drew⟩
end Go.Proofs.YtkpaokcgjeplpaaDoor
