
import Derived.Test.YtkpaokcgjeplpaaDoorNsP
import Derived.Deep.RegionHeld3
import Derived.Deep.AppendLies
import Derived.Deep.RegionLaw
import Derived.Deep.DrawnRows
namespace Go.Proofs.YtkpaokcgjeplpaaDoor
open Go.RowKit
theorem RowF.at {B g n c : Nat} {w : World} {fs : List Fl} {x : Fl} {gs : List Fl} (h : RowF B w (.slice (some ⟨g, 0, none⟩) n c) (fs ++ x :: gs)) : NAt w g (fs.length * 7) x.1 x.2 := by
  have hc := World.ownsRow.cells h (g := g) rfl
  have hk : ∀ j u, (ncells x)[j]? = some u → w.cell? ⟨g, fs.length * 7 + j, none⟩ = some u := fun j u hu => by
    have := hc (fs.length * 7 + j) u (by
      rw [List.flatMap_append, List.getElem?_append_right (by rw [ncellsL_len]; omega), ncellsL_len, Nat.add_sub_cancel_left, List.flatMap_cons, List.getElem?_append_left (List.getElem?_eq_some_iff.1 hu).1]
      exact hu)
    have hadd : (⟨g, 0, none⟩ : Addr).add (fs.length * 7 + j) = ⟨g, fs.length * 7 + j, none⟩ := by unfold Addr.add; split <;> simp_all
    rw [hadd] at this
    exact this
  exact ⟨hk 0 _ rfl, hk 1 _ rfl, hk 2 _ rfl, hk 3 _ rfl, hk 4 _ rfl, hk 5 _ rfl, hk 6 _ rfl⟩
theorem StkM.shape {B : Nat} {w : World} {v : Value} {es : List Ent} (h : StkM B w v es) : (v = .slice none 0 0 ∧ es = []) ∨ ∃ g c, v = .slice (some ⟨g, 0, none⟩) es.length c ∧ es.length ≤ c ∧ B ≤ g ∧ g < w.heap.size := by
  have hr := h.row
  unfold RowF at hr
  rcases hr.2 with ⟨h1, h0⟩ | ⟨g, cap, cur, hv, hb, hg, hn, _⟩
  · exact .inl ⟨h1, List.eq_nil_of_length_eq_zero (by simpa using h0)⟩
  · rw [List.length_map] at hv hn
    exact .inr ⟨g, cap, hv, hn, hb, (Array.getElem?_eq_some_iff.1 hg).1⟩
theorem StkM.last {B g c : Nat} {w : World} {n : Nat} {es : List Ent} {e : Ent} (h : StkM B w (.slice (some ⟨g, 0, none⟩) n c) (es ++ [e])) : NAt w g (es.length * 7) e.t e.u := by
  have hr := h.row
  rw [List.map_append, show [e].map Ent.fl = e.fl :: [] from rfl] at hr
  have := RowF.at hr
  rw [List.length_map] at this
  exact this
/-- Nothing but block g has turned, besides new ones. -/
theorem RowF.sl {B : Nat} {w : World} {v : Value} {fs : List Fl} (h : RowF B w v fs) : ∃ a n c, v = .slice a n c := by
  unfold RowF at h
  rcases h.2 with ⟨h1, _⟩ | ⟨g, cap, cur, hv, _⟩
  · exact ⟨_, _, _, h1⟩
  · exact ⟨_, _, _, hv⟩
theorem RdN.sl {w : World} {P : Nat → Prop} {v : Value} {l : List Nd} (h : RdN w P v l) : ∃ a n c, v = .slice a n c := by
  obtain ⟨a, c, h, _⟩ := h.shape
  exact ⟨_, _, _, h⟩
def zerosN : List Value := [.int .i64 0, .string ⟨#[]⟩, .int .i64 0, .bool false, .bool false, .bool false, .slice none 0 0]
/-- A node stored where seven cells are. -/
theorem row_store {B gg cap n : Nat} {w1 : World} {F : List Value} (hF : F.length = n * 7) (h : w1.ownsRow B 86 7 (.slice (some ⟨gg, 0, none⟩) (n + 1) cap) (n + 1) (F ++ zerosN)) (a0 a1 a2 a3 a4 a5 a6 : Value) :
    (((((((w1.setCell ⟨gg, n * 7, none⟩ a0).setCell ⟨gg, n * 7 + 1, none⟩ a1).setCell ⟨gg, n * 7 + 2, none⟩ a2).setCell ⟨gg, n * 7 + 3, none⟩ a3).setCell ⟨gg, n * 7 + 4, none⟩ a4).setCell ⟨gg, n * 7 + 5, none⟩ a5).setCell ⟨gg, n * 7 + 6, none⟩ a6).ownsRow B 86 7 (.slice (some ⟨gg, 0, none⟩) (n + 1) cap) (n + 1) (F ++ [a0, a1, a2, a3, a4, a5, a6]) := by
  have k0 := (h.stored (n * 7) a0).1
  have k1 := (k0.stored (n * 7 + 1) a1).1
  have k2 := (k1.stored (n * 7 + 2) a2).1
  have k3 := (k2.stored (n * 7 + 3) a3).1
  have k4 := (k3.stored (n * 7 + 4) a4).1
  have k5 := (k4.stored (n * 7 + 5) a5).1
  have k6 := (k5.stored (n * 7 + 6) a6).1
  have hs : ∀ (j : Nat) (l : List Value) (u : Value), (F ++ l).set (n * 7 + j) u = F ++ l.set j u := fun j l u => by
    rw [List.set_append_right _ _ (by omega), hF, Nat.add_sub_cancel_left]
  rw [show n * 7 = n * 7 + 0 from rfl, hs 0, hs 1, hs 2, hs 3, hs 4, hs 5, hs 6] at k6
  exact k6
theorem zero_cells {B gg cap n : Nat} {w1 : World} {F : List Value} (hF : F.length = n * 7) (h : w1.ownsRow B 86 7 (.slice (some ⟨gg, 0, none⟩) (n + 1) cap) (n + 1) (F ++ zerosN)) : ∀ j u, zerosN[j]? = some u → w1.cell? ⟨gg, n * 7 + j, none⟩ = some u := fun j u hu => by
  have hj : j < 7 := (List.getElem?_eq_some_iff.1 hu).1
  rw [h.cellAt (n * 7 + j) (by omega), List.getElem?_append_right (by omega), hF, Nat.add_sub_cancel_left, hu]
theorem far_block {v : Value} {gg H x : Nat} (hat : v.ownBlock = some gg ∨ gg = H) (hne : v.ownBlock ≠ some x) (hx : x < H) : gg ≠ x := by
  rintro rfl
  rcases hat with hat | hat
  · exact hne hat
  · omega
theorem gb_trans {a b c : World} {row : Option Nat} (h : a.grownBy b row) (k : b.grownBy c row) : a.grownBy c row :=
  ⟨k.os.trans h.os, k.tape.trans h.tape, k.output.trans h.output, Nat.le_trans h.size k.size, fun i hi hne => (k.block i (Nat.lt_of_lt_of_le hi h.size) hne).trans (h.block i hi hne)⟩
theorem gb_below {a b : World} (h : Below a.heap.size a b) (row : Option Nat) : a.grownBy b row := ⟨h.os, h.tape, h.output, h.size, fun i hi _ => h.block i hi⟩
theorem gb_set {a w : World} {row : Option Nat} (h : a.grownBy w row) {p : Addr} (hp : some p.block = row ∨ a.heap.size ≤ p.block) (u : Value) : a.grownBy (w.setCell p u) row :=
  ⟨h.os, h.tape, h.output, by simpa [World.setCell] using h.size, fun i hi hne => (Below.heap_setCell w p u i (by
    rintro rfl
    rcases hp with hp | hp
    · exact hne hp
    · omega)).trans (h.block i hi hne)⟩
/-- Stores in two blocks change places. -/
theorem sc_far {w : World} {g gg a b : Nat} (h : gg ≠ g) (u v : Value) : (w.setCell ⟨g, a, none⟩ u).setCell ⟨gg, b, none⟩ v = (w.setCell ⟨gg, b, none⟩ v).setCell ⟨g, a, none⟩ u := by
  have e : ∀ (A : Array Obj) (f f' : Obj → Obj), (A.modify g f).modify gg f' = (A.modify gg f').modify g f := fun A f f' => by
    apply Array.ext_getElem?
    intro i
    rw [Array.getElem?_modify, Array.getElem?_modify, Array.getElem?_modify, Array.getElem?_modify]
    by_cases h1 : gg = i
    · subst h1; rw [if_pos rfl, if_pos rfl, if_neg (Ne.symm h), if_neg (Ne.symm h)]
    · rw [if_neg h1, if_neg h1]
  unfold World.setCell
  simp only [e]
/-- What add leaves. -/
theorem add_fin {B g c gg cap xn xc uc : Nat} {w W w1 : World} {es : List Ent} {et t : Tok} {ek k : List Nd} {fs : List Fl} {ua xa : Option Addr} {o : Obj}
    (HH : Hid (StkM B w (.slice (some ⟨g, 0, none⟩) (es.length + 1) c) (es ++ [⟨et, ek, .slice ua fs.length uc, fs⟩])))
    (HN : Hid (RdN w (Free B (.slice (some ⟨g, 0, none⟩) (es.length + 1) c) (es ++ [⟨et, ek, .slice ua fs.length uc, fs⟩])) (.slice xa xn xc) k))
    (hB : B ≤ w.heap.size) (hB1 : Below w.heap.size w W) (hW : Hid (W.heap.size = w.heap.size + 1)) (HF : Hid ((fs.flatMap ncells).length = fs.length * 7))
    (HOWN : Hid (w1.ownsRow B 86 7 (.slice (some ⟨gg, 0, none⟩) (fs.length + 1) cap) (fs.length + 1) (fs.flatMap ncells ++ zerosN)))
    (HAT : Hid ((Value.slice ua fs.length uc).ownBlock = some gg ∨ gg = W.heap.size + 1)) (HGR : Hid ((W.alloc o).drew.grownBy w1 (Value.slice ua fs.length uc).ownBlock)) :
    (∃ u fs', StkM B ((((((((w1.setCell ⟨gg, fs.length * 7, none⟩ (.int .i64 t.kind)).setCell ⟨gg, fs.length * 7 + 1, none⟩ (.string t.text)).setCell ⟨gg, fs.length * 7 + 2, none⟩ (.int .i64 t.int)).setCell ⟨gg, fs.length * 7 + 3, none⟩ (.bool t.whole)).setCell ⟨gg, fs.length * 7 + 4, none⟩ (.bool t.sign)).setCell ⟨gg, fs.length * 7 + 5, none⟩ (.bool t.id)).setCell ⟨gg, fs.length * 7 + 6, none⟩ (.slice xa xn xc)).setCell ⟨g, es.length * 7 + 6, none⟩ (.slice (some ⟨gg, 0, none⟩) (fs.length + 1) cap)) (.slice (some ⟨g, 0, none⟩) (es.length + 1) c) (es ++ [⟨et, ek ++ [.mk t k], u, fs'⟩]) ∧ fs'.length = (ek ++ [Nd.mk t k]).length) ∧
    Below B w ((((((((w1.setCell ⟨gg, fs.length * 7, none⟩ (.int .i64 t.kind)).setCell ⟨gg, fs.length * 7 + 1, none⟩ (.string t.text)).setCell ⟨gg, fs.length * 7 + 2, none⟩ (.int .i64 t.int)).setCell ⟨gg, fs.length * 7 + 3, none⟩ (.bool t.whole)).setCell ⟨gg, fs.length * 7 + 4, none⟩ (.bool t.sign)).setCell ⟨gg, fs.length * 7 + 5, none⟩ (.bool t.id)).setCell ⟨gg, fs.length * 7 + 6, none⟩ (.slice xa xn xc)).setCell ⟨g, es.length * 7 + 6, none⟩ (.slice (some ⟨gg, 0, none⟩) (fs.length + 1) cap)) := by
  have hh := HH.out
  have hmem : (⟨et, ek, .slice ua fs.length uc, fs⟩ : Ent) ∈ es ++ [⟨et, ek, .slice ua fs.length uc, fs⟩] := by simp
  have hk := hh.kids _ hmem
  have hlen := hk.2.len
  have hbl := hk.1.block
  have hgB := (hh.row.block g rfl).1
  have hR := row_store HF.out HOWN.out (.int .i64 t.kind) (.string t.text) (.int .i64 t.int) (.bool t.whole) (.bool t.sign) (.bool t.id) (.slice xa xn xc)
  have hG0 : w.grownBy w1 (Value.slice ua fs.length uc).ownBlock := gb_trans (gb_below (below_seq hB1 (((Below.refl W.heap.size W).alloc (Nat.le_refl _) o).drew)) _) HGR.out
  have hgg : some gg = (Value.slice ua fs.length uc).ownBlock ∨ w.heap.size ≤ gg := by
    rcases HAT.out with h | h
    · exact .inl h.symm
    · exact .inr (by have := hW.out; omega)
  have hG : w.grownBy (((((((w1.setCell ⟨gg, fs.length * 7, none⟩ (.int .i64 t.kind)).setCell ⟨gg, fs.length * 7 + 1, none⟩ (.string t.text)).setCell ⟨gg, fs.length * 7 + 2, none⟩ (.int .i64 t.int)).setCell ⟨gg, fs.length * 7 + 3, none⟩ (.bool t.whole)).setCell ⟨gg, fs.length * 7 + 4, none⟩ (.bool t.sign)).setCell ⟨gg, fs.length * 7 + 5, none⟩ (.bool t.id)).setCell ⟨gg, fs.length * 7 + 6, none⟩ (.slice xa xn xc)) (Value.slice ua fs.length uc).ownBlock :=
    gb_set (gb_set (gb_set (gb_set (gb_set (gb_set (gb_set hG0 hgg _) hgg _) hgg _) hgg _) hgg _) hgg _) hgg _
  have hS := hh.add (x := .slice xa xn xc) (t := t) (k := k) (v'' := .slice (some ⟨gg, 0, none⟩) (fs.length + 1) cap) HN.out (by
    unfold RowF
    rw [List.length_append, List.flatMap_append]
    simpa [ncells, tcells] using hR) hG (by
    rcases HAT.out with h | h
    · exact .inl h.symm
    · exact .inr ⟨gg, rfl, by have := hW.out; omega⟩)
  refine ⟨⟨_, _, hS, by rw [List.length_append, List.length_append, hlen]; rfl⟩, ?_⟩
  have hbw : Below B w _ := ⟨hG.os, hG.tape, hG.output, hG.size, fun i hi => hG.block i (by omega) fun e => by have := (hbl i e.symm).1; omega⟩
  exact hbw.setCell (by show B ≤ g; exact hgB) _
def AddPost (B g c : Nat) (es : List Ent) (et : Tok) (ek : List Nd) (w : World) (e : Ending) (w' : World) : Prop :=
  e = .returned (.tuple #[]) ∧ (∃ u fs, StkM B w' (.slice (some ⟨g, 0, none⟩) (es.length + 1) c) (es ++ [⟨et, ek, u, fs⟩]) ∧ fs.length = ek.length) ∧ Below B w w'
end Go.Proofs.YtkpaokcgjeplpaaDoor
namespace Go.Proofs.YtkpaokcgjeplpaaDoor
open Go.RowKit
theorem below_drawn (B : Nat) (w : World) (n : Nat) : Below B w (w.drewN n) := ⟨rfl, rfl, rfl, Nat.le_refl _, fun _ _ => rfl⟩
def clsE (e : Tok) (t : Tok) : Bool := (t.kind == 20) && (t.text.toList == (cloB e).toList)
end Go.Proofs.YtkpaokcgjeplpaaDoor
