import Derived.Test.YtclicjiakkcfcaaGreatDoorNsP
import Derived.Deep.RegionHeld3
import Derived.Deep.AppendLies
import Derived.Deep.RegionLaw
import Derived.Deep.DrawnRows
import Derived.Deep.Cut
import Derived.Deep.CutRange
import Derived.Deep.DeepCutAuto
namespace Go.Proofs.YtclicjiakkcfcaaGreatDoor
open Go.RowKit
theorem RowF.at {B g n c : Nat} {w : World} {fs : List Fl} {x : Fl} {gs : List Fl} (h : RowF B w (.slice (some ⟨g, 0, none⟩) n c) (fs ++ x :: gs)) : NAt w g (fs.length * 7) x.1 x.2 := by
 have hc := World.ownsRow.cells h (g := g) rfl
 have hk : ∀ j u, (ncells x)[j]? = some u → w.cell? ⟨g, fs.length * 7 + j, none⟩ = some u := fun j u hu => by
  have := hc (fs.length * 7 + j) u (by
   rw [List.flatMap_append, List.getElem?_append_right (by rw [ncellsL_len]; omega), ncellsL_len, Nat.add_sub_cancel_left, List.flatMap_cons, List.getElem?_append_left (List.getElem?_eq_some_iff.1 hu).1]
   exact hu)
  have hadd : (⟨g, 0, none⟩ : Addr).add (fs.length * 7 + j) = ⟨g, fs.length * 7 + j, none⟩ := by unfold Addr.add; split <;> simp_all
  rw [hadd] at this
  exact this
 exact ⟨hk 0 _ rfl, hk 1 _ rfl, hk 2 _ rfl, hk 3 _ rfl, hk 4 _ rfl, hk 5 _ rfl, hk 6 _ rfl⟩
theorem RowF.sl {B : Nat} {w : World} {v : Value} {fs : List Fl} (h : RowF B w v fs) : ∃ a n c, v = .slice a n c := by
 unfold RowF at h
 rcases h.2 with ⟨h1, _⟩ | ⟨g, cap, cur, hv, _⟩
 · exact ⟨_, _, _, h1⟩
 · exact ⟨_, _, _, hv⟩
theorem RdN.sl {w : World} {P : Nat → Prop} {v : Value} {l : List Nd} (h : RdN w P v l) : ∃ a n c, v = .slice a n c := by
 obtain ⟨a, c, h, _⟩ := h.shape
 exact ⟨_, _, _, h⟩
theorem gb_trans {a b c : World} {row : Option Nat} (h : a.grownBy b row) (k : b.grownBy c row) : a.grownBy c row :=
 ⟨k.os.trans h.os, k.tape.trans h.tape, k.output.trans h.output, Nat.le_trans h.size k.size, fun i hi hne => (k.block i (Nat.lt_of_lt_of_le hi h.size) hne).trans (h.block i hi hne)⟩
theorem gb_below {a b : World} (h : Below a.heap.size a b) (row : Option Nat) : a.grownBy b row := ⟨h.os, h.tape, h.output, h.size, fun i hi _ => h.block i hi⟩
theorem gb_set {a w : World} {row : Option Nat} (h : a.grownBy w row) {p : Addr} (hp : some p.block = row ∨ a.heap.size ≤ p.block) (u : Value) : a.grownBy (w.setCell p u) row :=
 ⟨h.os, h.tape, h.output, by simpa [World.setCell] using h.size, fun i hi hne => (Below.heap_setCell w p u i (by
  rintro rfl
  rcases hp with hp | hp
  · exact hne hp
  · omega)).trans (h.block i hi hne)⟩
theorem below_drawn (B : Nat) (w : World) (n : Nat) : Below B w (w.drewN n) := ⟨rfl, rfl, rfl, Nat.le_refl _, fun _ _ => rfl⟩
def NB (w : World) (b : Nat) (t : Tok) (u : Value) : Prop := w.heap[b]? = some (.cells #[.int .i64 t.kind, .string t.text, .int .i64 t.int, .bool t.whole, .bool t.sign, .bool t.id, u] 96 (0, 0))
theorem NB.at {w : World} {b : Nat} {t : Tok} {u : Value} (h : NB w b t u) : w.cell? ⟨b, 0, none⟩ = some (.int .i64 t.kind) ∧ w.cell? ⟨b, 1, none⟩ = some (.string t.text) ∧ w.cell? ⟨b, 2, none⟩ = some (.int .i64 t.int) ∧
    w.cell? ⟨b, 3, none⟩ = some (.bool t.whole) ∧ w.cell? ⟨b, 4, none⟩ = some (.bool t.sign) ∧ w.cell? ⟨b, 5, none⟩ = some (.bool t.id) ∧ w.cell? ⟨b, 6, none⟩ = some u := by
  unfold NB at h
  simp [World.cell?, h]
theorem NB.frz {w : World} {b : Nat} {t : Tok} {u : Value} (h : NB w b t u) : ∀ j, w.frozen? ⟨b, j, none⟩ = false := fun j => by
 unfold NB at h
 simp [World.frozen?, h]
theorem NB.new (w : World) (t : Tok) (u : Value) : NB (w.alloc (.cells #[.int .i64 t.kind, .string t.text, .int .i64 t.int, .bool t.whole, .bool t.sign, .bool t.id, u] 96)) w.heap.size t u := heap_alloc_self _ _
theorem NB.lt {w : World} {b : Nat} {t : Tok} {u : Value} (h : NB w b t u) : b < w.heap.size := (Array.getElem?_eq_some_iff.1 h).1
theorem NB.below {w w' : World} {b B : Nat} {t : Tok} {u : Value} (h : NB w b t u) (hb : Below B w w') (hB : b < B) : NB w' b t u := by
 unfold NB at h ⊢
 rw [hb.block b hB]; exact h
theorem NB.far {w w' : World} {b : Nat} {t : Tok} {u : Value} {row : Option Nat} (h : NB w b t u) (hg : w.grownBy w' row) (hr : row ≠ some b) : NB w' b t u := by
 have hl := h.lt
 unfold NB at h ⊢
 rw [hg.block b hl (fun e => hr e.symm)]; exact h
theorem NB.put {w : World} {b : Nat} {t : Tok} {u : Value} (h : NB w b t u) (t' : Tok) (u' : Value) : NB (((((((w.setCell ⟨b, 0, none⟩ (.int .i64 t'.kind)).setCell ⟨b, 1, none⟩ (.string t'.text)).setCell ⟨b, 2, none⟩ (.int .i64 t'.int)).setCell ⟨b, 3, none⟩ (.bool t'.whole)).setCell ⟨b, 4, none⟩ (.bool t'.sign)).setCell ⟨b, 5, none⟩ (.bool t'.id)).setCell ⟨b, 6, none⟩ u') b t' u' := by
 unfold NB at h ⊢
 have k0 := heap_setCell_same w b 0 _ _ (.int .i64 t'.kind) h
 have k1 := heap_setCell_same _ b 1 _ _ (.string t'.text) k0
 have k2 := heap_setCell_same _ b 2 _ _ (.int .i64 t'.int) k1
 have k3 := heap_setCell_same _ b 3 _ _ (.bool t'.whole) k2
 have k4 := heap_setCell_same _ b 4 _ _ (.bool t'.sign) k3
 have k5 := heap_setCell_same _ b 5 _ _ (.bool t'.id) k4
 have k6 := heap_setCell_same _ b 6 _ _ u' k5
 rw [k6]
 rfl
theorem Gw.put {g b : Nat} {a w : World} (h : Gw g a w) (hb : a.heap.size ≤ b) (t' : Tok) (u' : Value) : Gw g a (((((((w.setCell ⟨b, 0, none⟩ (.int .i64 t'.kind)).setCell ⟨b, 1, none⟩ (.string t'.text)).setCell ⟨b, 2, none⟩ (.int .i64 t'.int)).setCell ⟨b, 3, none⟩ (.bool t'.whole)).setCell ⟨b, 4, none⟩ (.bool t'.sign)).setCell ⟨b, 5, none⟩ (.bool t'.id)).setCell ⟨b, 6, none⟩ u') :=
 ((((((h.set (p := ⟨b, 0, none⟩) (.inr hb) _).set (p := ⟨b, 1, none⟩) (.inr hb) _).set (p := ⟨b, 2, none⟩) (.inr hb) _).set (p := ⟨b, 3, none⟩) (.inr hb) _).set (p := ⟨b, 4, none⟩) (.inr hb) _).set (p := ⟨b, 5, none⟩) (.inr hb) _).set (p := ⟨b, 6, none⟩) (.inr hb) _
theorem Gw.free {B sb : Nat} {w W : World} {v : Value} {es : List Ent} {x : Value} {k : List Nd} (G : Gw sb w W) (hsb : sb < B) (h : RdN w (Free B v es) x k) : RdN W (Free B v es) x k :=
 h.move (fun b hf hl => G.block b hl fun e => by injection e with e; have := hf.1; omega) G.size
theorem RowF.slen {B n c : Nat} {w : World} {a : Option Addr} {fs : List Fl} (h : RowF B w (.slice a n c) fs) : n = fs.length := by
 unfold RowF at h
 rcases h.2 with ⟨h1, h0⟩ | ⟨g, cap, cur, hv, _⟩
 · injection h1 with _ h2 _; omega
 · injection hv
theorem Gw.put0 {b : Nat} {a w : World} (h : Gw b a w) (t' : Tok) (u' : Value) : Gw b a (((((((w.setCell ⟨b, 0, none⟩ (.int .i64 t'.kind)).setCell ⟨b, 1, none⟩ (.string t'.text)).setCell ⟨b, 2, none⟩ (.int .i64 t'.int)).setCell ⟨b, 3, none⟩ (.bool t'.whole)).setCell ⟨b, 4, none⟩ (.bool t'.sign)).setCell ⟨b, 5, none⟩ (.bool t'.id)).setCell ⟨b, 6, none⟩ u') :=
 ((((((h.set (p := ⟨b, 0, none⟩) (.inl rfl) _).set (p := ⟨b, 1, none⟩) (.inl rfl) _).set (p := ⟨b, 2, none⟩) (.inl rfl) _).set (p := ⟨b, 3, none⟩) (.inl rfl) _).set (p := ⟨b, 4, none⟩) (.inl rfl) _).set (p := ⟨b, 5, none⟩) (.inl rfl) _).set (p := ⟨b, 6, none⟩) (.inl rfl) _
end Go.Proofs.YtclicjiakkcfcaaGreatDoor
