
import Derived.Test.YtfggpenfdfklkaaGreatShD
namespace Go.Proofs.YtfggpenfdfklkaaGreat
open Go.RowKit
/-- A block known whole. -/
def CB (T : TypeId) (w : World) (b : Nat) (cs : Array Value) : Prop := w.heap[b]? = some (.cells cs T (0, 0))
section
variable {T : TypeId} {w w' : World} {b : Nat} {cs : Array Value}
theorem CB.lt (h : CB T w b cs) : b < w.heap.size := (Array.getElem?_eq_some_iff.1 h).1
theorem CB.cell (h : CB T w b cs) (i : Nat) : w.cell? ⟨b, i, none⟩ = cs[i]? := cell_of_row w b i cs _ (0, 0) h
theorem CB.frozen (h : CB T w b cs) (i : Nat) : w.frozen? ⟨b, i, none⟩ = false := frozen_of_row w b i cs _ h
theorem CB.new (w : World) (cs : Array Value) : CB T (w.alloc (.cells cs T)) w.heap.size cs := heap_alloc_self _ _
theorem CB.alloc (h : CB T w b cs) (o : Obj) : CB T (w.alloc o) b cs := (Below.heap_alloc w o b h.lt).trans h
theorem CB.below {B : Nat} (h : CB T w b cs) (hb : Below B w w') (hB : b < B) : CB T w' b cs := (hb.block b hB).trans h
theorem CB.set (h : CB T w b cs) (i : Nat) (u : Value) : CB T (w.setCell ⟨b, i, none⟩ u) b (cs.setIfInBounds i u) := by
  unfold CB at h ⊢
  simp [World.setCell, Array.getElem?_modify, h]
theorem CB.far (h : CB T w b cs) {p : Addr} (hp : b ≠ p.block) (u : Value) : CB T (w.setCell p u) b cs := (heap_setCell_other w p b u hp).trans h
theorem TB.far {t : Tok} (h : TB w b t) {p : Addr} (hp : b ≠ p.block) (u : Value) : TB (w.setCell p u) b t := (heap_setCell_other w p b u hp).trans h
end
abbrev ruC (s : ByteArray) (pv : Value) (bl : Bool) (dv : Value) : Array Value := #[.string s, pv, .bool bl, dv]
/-- The rule that is being read, and the token at its beginning. -/
structure RuI (wo : World) (t : Tok) (s : ByteArray) (pv : Value) (bl : Bool) (dv : Value) (w : World) : Prop where
  tb : TB w wo.heap.size t
  ru : CB 45 w (wo.heap.size + 1) (ruC s pv bl dv)
  bel : Below wo.heap.size wo w
section
variable {wo w w' : World} {t : Tok} {s : ByteArray} {pv dv : Value} {bl : Bool}
theorem RuI.below (h : RuI wo t s pv bl dv w) (hb : Below w.heap.size w w') : RuI wo t s pv bl dv w' := ⟨h.tb.below hb h.tb.lt, h.ru.below hb h.ru.lt, below_seq h.bel hb⟩
theorem RuI.set0 (h : RuI wo t s pv bl dv w) (x : ByteArray) : RuI wo t x pv bl dv (w.setCell ⟨wo.heap.size + 1, 0, none⟩ (.string x)) :=
  ⟨h.tb.far (by show _ ≠ wo.heap.size + 1; omega) _, h.ru.set 0 _, h.bel.setCell (by show wo.heap.size ≤ wo.heap.size + 1; omega) _⟩
theorem RuI.set1 (h : RuI wo t s pv bl dv w) (x : Value) : RuI wo t s x bl dv (w.setCell ⟨wo.heap.size + 1, 1, none⟩ x) :=
  ⟨h.tb.far (by show _ ≠ wo.heap.size + 1; omega) _, h.ru.set 1 _, h.bel.setCell (by show wo.heap.size ≤ wo.heap.size + 1; omega) _⟩
theorem RuI.set2 (h : RuI wo t s pv bl dv w) (x : Bool) : RuI wo t s pv x dv (w.setCell ⟨wo.heap.size + 1, 2, none⟩ (.bool x)) :=
  ⟨h.tb.far (by show _ ≠ wo.heap.size + 1; omega) _, h.ru.set 2 _, h.bel.setCell (by show wo.heap.size ≤ wo.heap.size + 1; omega) _⟩
theorem RuI.set3 (h : RuI wo t s pv bl dv w) (x : Value) : RuI wo t s pv bl x (w.setCell ⟨wo.heap.size + 1, 3, none⟩ x) :=
  ⟨h.tb.far (by show _ ≠ wo.heap.size + 1; omega) _, h.ru.set 3 _, h.bel.setCell (by show wo.heap.size ≤ wo.heap.size + 1; omega) _⟩
end
def AllB : Nat → Prop := fun _ => True
/-- What Sheet answers. -/
def SheetPost (w : World) (rs : List RuleD) (e : Ending) (w' : World) : Prop := (∃ v', e = .returned (.tuple #[v', .int .i64 0]) ∧ RdRu w' AllB v' rs) ∧ Below w.heap.size w w'
/-- What holds while Sheet reads. -/
structure SheI (w : World) (l : List Nd) (i : Nat) (wr : World) (ov : Value) (ks : List (Rc × RuleD)) : Prop where
  le : i ≤ l.length + 1
  row : LsRu AllB w.heap.size wr ov ks
  len : ks.length ≤ i
  run : ks.map Prod.snd ++ rulesS (l.drop i) = rulesS l
  bel : Below w.heap.size w wr
theorem junk_cases (t : Tok) (k : List Nd) :
    (junkB (.mk t k) = true ∧ (t.kind == 13) = true) ∨
    (junkB (.mk t k) = true ∧ (t.kind == 13) = false ∧ (t.kind == 14) = true) ∨
    (junkB (.mk t k) = true ∧ (t.kind == 13) = false ∧ (t.kind == 14) = false ∧ (t.kind == 15) = true) ∨
    (junkB (.mk t k) = true ∧ (t.kind == 13) = false ∧ (t.kind == 14) = false ∧ (t.kind == 15) = false ∧ (t.kind == 17) = true) ∨
    (junkB (.mk t k) = false ∧ (t.kind == 13) = false ∧ (t.kind == 14) = false ∧ (t.kind == 15) = false ∧ (t.kind == 17) = false) := by
  unfold junkB semB
  rw [wh_iff]
  simp only [Nd.tok]
  cases (t.kind == 13) <;> cases (t.kind == 14) <;> cases (t.kind == 15) <;> cases (t.kind == 17) <;> simp
theorem rules_skip {l : List Nd} {i : Nat} {n : Nd} (hd : l.drop i = n :: l.drop (i + 1)) (h : junkB n = true) : rulesS (l.drop i) = rulesS (l.drop (i + 1)) := by
  rw [hd, rulesS_cons, if_pos h]
theorem rules_one {l : List Nd} {i F kk : Nat} {n : Nd} {a : Bool} (hd : l.drop i = n :: l.drop (i + 1)) (h : junkB n = false) (ha : (n.tok.kind == 3) = a) (hF : F = if a = true then i + 1 else i)
    (hs : (l.drop F).dropWhile (preB a) = l.drop kk ∧ (l.drop F).takeWhile (preB a) = (l.take kk).drop F) :
    rulesS (l.drop i) = (if (a || headB (l.drop kk)) = true then [⟨if a = true then lowS n.tok.text else ⟨#[]⟩, trimS ((l.take kk).drop F), headB (l.drop kk), kidsD (l.drop kk)⟩] else []) ++ rulesS (l.drop (kk + 1)) := by
  have hb : bodyOf n (l.drop (i + 1)) = l.drop F := by
    unfold bodyOf
    rw [ha, hF]
    cases a
    · rw [if_neg (by decide), if_neg (by decide), hd]
    · rw [if_pos rfl, if_pos rfl]
  rw [hd, rulesS_cons, if_neg (by rw [h]; decide), ha, hb]
  unfold ruleOf
  rw [hs.1, hs.2, List.tail_drop]
end Go.Proofs.YtfggpenfdfklkaaGreat
