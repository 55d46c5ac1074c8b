
import Derived.Test.YtkpaokcgjeplpaaDoorNsE
import Derived.Deep.Cut
import Derived.Deep.CutRange
import Derived.Deep.DeepCutAuto
namespace Go.Proofs.YtkpaokcgjeplpaaDoor
open Go.RowKit
/-! One: what is open, in memory and as the machine has it. -/
def stkOf (es : List Ent) : Stk := (es.map fun e => (e.t, e.k)).reverse
theorem stkOf_snoc (es : List Ent) (e : Ent) : stkOf (es ++ [e]) = (e.t, e.k) :: stkOf es := by unfold stkOf; simp
theorem stkOf_len (es : List Ent) : (stkOf es).length = es.length := by unfold stkOf; simp
/-- A block that holds a node. -/
def NB (w : World) (b : Nat) (t : Tok) (u : Value) : Prop := w.heap[b]? = some (.cells #[.int .i64 t.kind, .string t.text, .int .i64 t.int, .bool t.whole, .bool t.sign, .bool t.id, u] 86 (0, 0))
theorem NB.at {w : World} {b : Nat} {t : Tok} {u : Value} (h : NB w b t u) : w.cell? ⟨b, 0, none⟩ = some (.int .i64 t.kind) ∧ w.cell? ⟨b, 1, none⟩ = some (.string t.text) ∧ w.cell? ⟨b, 2, none⟩ = some (.int .i64 t.int) ∧
    w.cell? ⟨b, 3, none⟩ = some (.bool t.whole) ∧ w.cell? ⟨b, 4, none⟩ = some (.bool t.sign) ∧ w.cell? ⟨b, 5, none⟩ = some (.bool t.id) ∧ w.cell? ⟨b, 6, none⟩ = some u := by
  unfold NB at h
  simp [World.cell?, h]
theorem NB.frz {w : World} {b : Nat} {t : Tok} {u : Value} (h : NB w b t u) : ∀ j, w.frozen? ⟨b, j, none⟩ = false := fun j => by
  unfold NB at h
  simp [World.frozen?, h]
theorem NB.new (w : World) (t : Tok) (u : Value) : NB (w.alloc (.cells #[.int .i64 t.kind, .string t.text, .int .i64 t.int, .bool t.whole, .bool t.sign, .bool t.id, u] 86)) w.heap.size t u := heap_alloc_self _ _
theorem NB.lt {w : World} {b : Nat} {t : Tok} {u : Value} (h : NB w b t u) : b < w.heap.size := (Array.getElem?_eq_some_iff.1 h).1
theorem NB.below {w w' : World} {b B : Nat} {t : Tok} {u : Value} (h : NB w b t u) (hb : Below B w w') (hB : b < B) : NB w' b t u := by
  unfold NB at h ⊢
  rw [hb.block b hB]; exact h
theorem NB.far {w w' : World} {b : Nat} {t : Tok} {u : Value} {row : Option Nat} (h : NB w b t u) (hg : w.grownBy w' row) (hr : row ≠ some b) : NB w' b t u := by
  have hl := h.lt
  unfold NB at h ⊢
  rw [hg.block b hl (fun e => hr e.symm)]; exact h
/-- A node stored there. -/
theorem NB.put {w : World} {b : Nat} {t : Tok} {u : Value} (h : NB w b t u) (t' : Tok) (u' : Value) : NB (((((((w.setCell ⟨b, 0, none⟩ (.int .i64 t'.kind)).setCell ⟨b, 1, none⟩ (.string t'.text)).setCell ⟨b, 2, none⟩ (.int .i64 t'.int)).setCell ⟨b, 3, none⟩ (.bool t'.whole)).setCell ⟨b, 4, none⟩ (.bool t'.sign)).setCell ⟨b, 5, none⟩ (.bool t'.id)).setCell ⟨b, 6, none⟩ u') b t' u' := by
  unfold NB at h ⊢
  have k0 := heap_setCell_same w b 0 _ _ (.int .i64 t'.kind) h
  have k1 := heap_setCell_same _ b 1 _ _ (.string t'.text) k0
  have k2 := heap_setCell_same _ b 2 _ _ (.int .i64 t'.int) k1
  have k3 := heap_setCell_same _ b 3 _ _ (.bool t'.whole) k2
  have k4 := heap_setCell_same _ b 4 _ _ (.bool t'.sign) k3
  have k5 := heap_setCell_same _ b 5 _ _ (.bool t'.id) k4
  have k6 := heap_setCell_same _ b 6 _ _ u' k5
  rw [k6]
  rfl
theorem Gw.put {g b : Nat} {a w : World} (h : Gw g a w) (hb : a.heap.size ≤ b) (t' : Tok) (u' : Value) : Gw g a (((((((w.setCell ⟨b, 0, none⟩ (.int .i64 t'.kind)).setCell ⟨b, 1, none⟩ (.string t'.text)).setCell ⟨b, 2, none⟩ (.int .i64 t'.int)).setCell ⟨b, 3, none⟩ (.bool t'.whole)).setCell ⟨b, 4, none⟩ (.bool t'.sign)).setCell ⟨b, 5, none⟩ (.bool t'.id)).setCell ⟨b, 6, none⟩ u') :=
  ((((((h.set (p := ⟨b, 0, none⟩) (.inr hb) _).set (p := ⟨b, 1, none⟩) (.inr hb) _).set (p := ⟨b, 2, none⟩) (.inr hb) _).set (p := ⟨b, 3, none⟩) (.inr hb) _).set (p := ⟨b, 4, none⟩) (.inr hb) _).set (p := ⟨b, 5, none⟩) (.inr hb) _).set (p := ⟨b, 6, none⟩) (.inr hb) _
theorem StkM.sl0 {B : Nat} {w : World} {v : Value} (h : StkM B w v []) : ∃ a c, v = .slice a 0 c := by
  rcases h.shape with ⟨rfl, _⟩ | ⟨g, c, rfl, _⟩
  · exact ⟨_, _, rfl⟩
  · exact ⟨_, _, rfl⟩
theorem Gw.free {B sb : Nat} {w W : World} {v : Value} {es : List Ent} {x : Value} {k : List Nd} (G : Gw sb w W) (hsb : sb < B) (h : RdN w (Free B v es) x k) : RdN W (Free B v es) x k :=
  h.move (fun b hf hl => G.block b hl fun e => by injection e with e; have := hf.1; omega) G.size
theorem StkM.gw {B sb : Nat} {w W : World} {v : Value} {es : List Ent} (h : StkM B w v es) (G : Gw sb w W) (hsb : sb < B) : StkM B W v es := h.keep G fun k hk => by injection hk with hk; omega
theorem addS_stk {es : List Ent} {e : Ent} {n : Nd} {u : Value} {fs : List Fl} : addS (stkOf (es ++ [e])) n = stkOf (es ++ [⟨e.t, if es.length + 1 < 32 then e.k ++ [n] else e.k, u, fs⟩]) := by
  rw [stkOf_snoc, stkOf_snoc]
  by_cases h : es.length + 1 < 32
  · rw [if_pos h, addS]
    simp only [stkOf_len, if_pos h]
  · rw [if_neg h, addS]
    simp only [stkOf_len, if_neg h]
theorem RowF.slen {B n c : Nat} {w : World} {a : Option Addr} {fs : List Fl} (h : RowF B w (.slice a n c) fs) : n = fs.length := by
  unfold RowF at h
  rcases h.2 with ⟨h1, h0⟩ | ⟨g, cap, cur, hv, _⟩
  · injection h1 with _ h2 _; omega
  · injection hv
theorem Gw.put0 {b : Nat} {a w : World} (h : Gw b a w) (t' : Tok) (u' : Value) : Gw b a (((((((w.setCell ⟨b, 0, none⟩ (.int .i64 t'.kind)).setCell ⟨b, 1, none⟩ (.string t'.text)).setCell ⟨b, 2, none⟩ (.int .i64 t'.int)).setCell ⟨b, 3, none⟩ (.bool t'.whole)).setCell ⟨b, 4, none⟩ (.bool t'.sign)).setCell ⟨b, 5, none⟩ (.bool t'.id)).setCell ⟨b, 6, none⟩ u') :=
  ((((((h.set (p := ⟨b, 0, none⟩) (.inl rfl) _).set (p := ⟨b, 1, none⟩) (.inl rfl) _).set (p := ⟨b, 2, none⟩) (.inl rfl) _).set (p := ⟨b, 3, none⟩) (.inl rfl) _).set (p := ⟨b, 4, none⟩) (.inl rfl) _).set (p := ⟨b, 5, none⟩) (.inl rfl) _).set (p := ⟨b, 6, none⟩) (.inl rfl) _
theorem rdT_at {w : World} {b : Nat} {ts : List Tok} (h : ∀ j u, (ts.flatMap tcells)[j]? = some u → w.cell? ⟨b, j, none⟩ = some u) {p : Nat} (hp : p < ts.length) : CellsAt w b p ts[p] := cellsAt_of h hp
/-- What One answers. -/
def OnePost (w : World) (ts : List Tok) (a : Nat) (e : Ending) (w' : World) : Prop :=
  (∃ u, e = .returned (.tuple #[nval (oneS [] (ts.drop a)).1.tok u, .int .i64 ((ts.length - (oneS [] (ts.drop a)).2.length : Nat) : Int)]) ∧ RdN w' (fun b => w.heap.size ≤ b) u (oneS [] (ts.drop a)).1.kids) ∧ Below w.heap.size w w'
end Go.Proofs.YtkpaokcgjeplpaaDoor
