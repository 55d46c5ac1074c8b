
import Derived.Test.YtkpaokcgjeplpaaDoorShD
namespace Go.Proofs.YtkpaokcgjeplpaaDoor
open Go.RowKit
/-- A block known whole. -/
def CB (T : TypeId) (w : World) (b : Nat) (cs : Array Value) : Prop := w.heap[b]? = some (.cells cs T (0, 0))
section
variable {T : TypeId} {w w' : World} {b : Nat} {cs : Array Value}
theorem CB.lt (h : CB T w b cs) : b < w.heap.size := (Array.getElem?_eq_some_iff.1 h).1
theorem CB.cell (h : CB T w b cs) (i : Nat) : w.cell? ⟨b, i, none⟩ = cs[i]? := cell_of_row w b i cs _ (0, 0) h
theorem CB.frozen (h : CB T w b cs) (i : Nat) : w.frozen? ⟨b, i, none⟩ = false := frozen_of_row w b i cs _ h
theorem CB.new (w : World) (cs : Array Value) : CB T (w.alloc (.cells cs T)) w.heap.size cs := heap_alloc_self _ _
theorem CB.alloc (h : CB T w b cs) (o : Obj) : CB T (w.alloc o) b cs := (Below.heap_alloc w o b h.lt).trans h
theorem CB.below {B : Nat} (h : CB T w b cs) (hb : Below B w w') (hB : b < B) : CB T w' b cs := (hb.block b hB).trans h
theorem CB.set (h : CB T w b cs) (i : Nat) (u : Value) : CB T (w.setCell ⟨b, i, none⟩ u) b (cs.setIfInBounds i u) := by
  unfold CB at h ⊢
  simp [World.setCell, Array.getElem?_modify, h]
theorem CB.far (h : CB T w b cs) {p : Addr} (hp : b ≠ p.block) (u : Value) : CB T (w.setCell p u) b cs := (heap_setCell_other w p b u hp).trans h
theorem TB.far {t : Tok} (h : TB w b t) {p : Addr} (hp : b ≠ p.block) (u : Value) : TB (w.setCell p u) b t := (heap_setCell_other w p b u hp).trans h
end
abbrev ruC (s : ByteArray) (pv : Value) (bl : Bool) (dv : Value) : Array Value := #[.string s, pv, .bool bl, dv]
section
variable {wo w w' : World} {t : Tok} {s : ByteArray} {pv dv : Value} {bl : Bool}
end
def AllB : Nat → Prop := fun _ => True
/-- What Sheet answers. -/
def SheetPost (w : World) (rs : List RuleD) (e : Ending) (w' : World) : Prop := (∃ v', e = .returned (.tuple #[v', .int .i64 0]) ∧ RdRu w' AllB v' rs) ∧ Below w.heap.size w w'
theorem junk_cases (t : Tok) (k : List Nd) :
    (junkB (.mk t k) = true ∧ (t.kind == 13) = true) ∨
    (junkB (.mk t k) = true ∧ (t.kind == 13) = false ∧ (t.kind == 14) = true) ∨
    (junkB (.mk t k) = true ∧ (t.kind == 13) = false ∧ (t.kind == 14) = false ∧ (t.kind == 15) = true) ∨
    (junkB (.mk t k) = true ∧ (t.kind == 13) = false ∧ (t.kind == 14) = false ∧ (t.kind == 15) = false ∧ (t.kind == 17) = true) ∨
    (junkB (.mk t k) = false ∧ (t.kind == 13) = false ∧ (t.kind == 14) = false ∧ (t.kind == 15) = false ∧ (t.kind == 17) = false) := by
  unfold junkB semB
  rw [wh_iff]
  simp only [Nd.tok]
  cases (t.kind == 13) <;> cases (t.kind == 14) <;> cases (t.kind == 15) <;> cases (t.kind == 17) <;> simp
theorem rules_skip {l : List Nd} {i : Nat} {n : Nd} (hd : l.drop i = n :: l.drop (i + 1)) (h : junkB n = true) : rulesS (l.drop i) = rulesS (l.drop (i + 1)) := by
  rw [hd, rulesS_cons, if_pos h]
theorem rules_one {l : List Nd} {i F kk : Nat} {n : Nd} {a : Bool} (hd : l.drop i = n :: l.drop (i + 1)) (h : junkB n = false) (ha : (n.tok.kind == 3) = a) (hF : F = if a = true then i + 1 else i)
    (hs : (l.drop F).dropWhile (preB a) = l.drop kk ∧ (l.drop F).takeWhile (preB a) = (l.take kk).drop F) :
    rulesS (l.drop i) = (if (a || headB (l.drop kk)) = true then [⟨if a = true then lowS n.tok.text else ⟨#[]⟩, trimS ((l.take kk).drop F), headB (l.drop kk), kidsD (l.drop kk)⟩] else []) ++ rulesS (l.drop (kk + 1)) := by
  have hb : bodyOf n (l.drop (i + 1)) = l.drop F := by
    unfold bodyOf
    rw [ha, hF]
    cases a
    · rw [if_neg (by decide), if_neg (by decide), hd]
    · rw [if_pos rfl, if_pos rfl]
  rw [hd, rulesS_cons, if_neg (by rw [h]; decide), ha, hb]
  unfold ruleOf
  rw [hs.1, hs.2, List.tail_drop]
end Go.Proofs.YtkpaokcgjeplpaaDoor
