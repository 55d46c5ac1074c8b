
import Derived.Test.YtfggpenfdfklkaaGreatNsP
import Derived.Deep.RegionHeld3
import Derived.Deep.AppendLies
import Derived.Deep.RegionLaw
import Derived.Deep.DrawnRows
namespace Go.Proofs.YtfggpenfdfklkaaGreat
open Go.RowKit
theorem RowF.at {B g n c : Nat} {w : World} {fs : List Fl} {x : Fl} {gs : List Fl} (h : RowF B w (.slice (some ⟨g, 0, none⟩) n c) (fs ++ x :: gs)) : NAt w g (fs.length * 7) x.1 x.2 := by
  have hc := World.ownsRow.cells h (g := g) rfl
  have hk : ∀ j u, (ncells x)[j]? = some u → w.cell? ⟨g, fs.length * 7 + j, none⟩ = some u := fun j u hu => by
    have := hc (fs.length * 7 + j) u (by
      rw [List.flatMap_append, List.getElem?_append_right (by rw [ncellsL_len]; omega), ncellsL_len, Nat.add_sub_cancel_left, List.flatMap_cons, List.getElem?_append_left (List.getElem?_eq_some_iff.1 hu).1]
      exact hu)
    have hadd : (⟨g, 0, none⟩ : Addr).add (fs.length * 7 + j) = ⟨g, fs.length * 7 + j, none⟩ := by unfold Addr.add; split <;> simp_all
    rw [hadd] at this
    exact this
  exact ⟨hk 0 _ rfl, hk 1 _ rfl, hk 2 _ rfl, hk 3 _ rfl, hk 4 _ rfl, hk 5 _ rfl, hk 6 _ rfl⟩
theorem StkM.shape {B : Nat} {w : World} {v : Value} {es : List Ent} (h : StkM B w v es) : (v = .slice none 0 0 ∧ es = []) ∨ ∃ g c, v = .slice (some ⟨g, 0, none⟩) es.length c ∧ es.length ≤ c ∧ B ≤ g ∧ g < w.heap.size := by
  have hr := h.row
  unfold RowF at hr
  rcases hr.2 with ⟨h1, h0⟩ | ⟨g, cap, cur, hv, hb, hg, hn, _⟩
  · exact .inl ⟨h1, List.eq_nil_of_length_eq_zero (by simpa using h0)⟩
  · rw [List.length_map] at hv hn
    exact .inr ⟨g, cap, hv, hn, hb, (Array.getElem?_eq_some_iff.1 hg).1⟩
theorem StkM.last {B g c : Nat} {w : World} {n : Nat} {es : List Ent} {e : Ent} (h : StkM B w (.slice (some ⟨g, 0, none⟩) n c) (es ++ [e])) : NAt w g (es.length * 7) e.t e.u := by
  have hr := h.row
  rw [List.map_append, show [e].map Ent.fl = e.fl :: [] from rfl] at hr
  have := RowF.at hr
  rw [List.length_map] at this
  exact this
/-- Nothing but block g has turned, besides new ones. -/
theorem RowF.sl {B : Nat} {w : World} {v : Value} {fs : List Fl} (h : RowF B w v fs) : ∃ a n c, v = .slice a n c := by
  unfold RowF at h
  rcases h.2 with ⟨h1, _⟩ | ⟨g, cap, cur, hv, _⟩
  · exact ⟨_, _, _, h1⟩
  · exact ⟨_, _, _, hv⟩
theorem RdN.sl {w : World} {P : Nat → Prop} {v : Value} {l : List Nd} (h : RdN w P v l) : ∃ a n c, v = .slice a n c := by
  obtain ⟨a, c, h, _⟩ := h.shape
  exact ⟨_, _, _, h⟩
/-- A variable that holds a stack. -/
def VarS (sb : Nat) (w : World) (v : Value) : Prop := w.heap[sb]? = some (.cells #[v] 93 (0, 0))
def PopPost (sb g n c : Nat) (w : World) (r : Value) (e : Ending) (w' : World) : Prop := e = .returned r ∧ w.grownBy w' (some sb) ∧ VarS sb w' (.slice (some ⟨g, 0, none⟩) n c)
set_option maxRecDepth 100000 in
set_option maxHeartbeats 1600000 in
theorem pop_any {B sb g c : Nat} {w : World} {es : List Ent} {e : Ent} (h : StkM B w (.slice (some ⟨g, 0, none⟩) (es.length + 1) c) (es ++ [e])) (hs : VarS sb w (.slice (some ⟨g, 0, none⟩) (es.length + 1) c)) (_hsb : sb < B) (hl : es.length ≤ 100000000) :
    Calls Tryz.prog 68 #[.pointer (some ⟨sb, 0, none⟩)] w (PopPost sb g es.length c w (nval e.t e.u)) := by
  obtain ⟨c0, c1, c2, c3, c4, c5, c6⟩ := h.last
  have hgl := (h.row.block g rfl).2
  have hBg := (h.row.block g rfl).1
  have hle : es.length + 1 ≤ c := by
    rcases h.shape with ⟨h1, _⟩ | ⟨g', c', h1, h2, _⟩
    · cases h1
    · injection h1 with _ _ h4; rw [h4]; simpa using h2
  have hv : w.cell? ⟨sb, 0, none⟩ = some (.slice (some ⟨g, 0, none⟩) (es.length + 1) c) := by unfold VarS at hs; simp [World.cell?, hs]
  have hvf : w.frozen? ⟨sb, 0, none⟩ = false := by unfold VarS at hs; simp [World.frozen?, hs]
  have hsl : sb < w.heap.size := (Array.getElem?_eq_some_iff.1 hs).1
  obtain ⟨ua, un, uc, hu⟩ := (h.kids e (by simp)).1.sl
  obtain ⟨t, k, u, fs⟩ := e
  simp only at hu
  subst hu
  simp only at c0 c1 c2 c3 c4 c5 c6 ⊢
  clear h
  go_enter Tryz.func68, Tryz.ntmps68
  go_wp2
  refine bodyPost_ret (v := nval t (.slice ua un uc)) ?_ rfl ⟨rfl, ?_, ?_⟩
  · simp [results, Tryz.results68, go_sem]
  · exact (((Gw.refl sb w).set (.inl rfl) _).alloc _).alloc _
  · unfold VarS at hs ⊢
    have h1 := heap_setCell_same w sb 0 _ _ (.slice (some ⟨g, 0, none⟩) es.length c) hs
    rw [Below.heap_alloc _ _ _ (by simp [World.setCell]; omega), Below.heap_alloc _ _ _ (by simp [World.setCell]; omega), h1]
    rfl
def zerosN : List Value := [.int .i64 0, .string ⟨#[]⟩, .int .i64 0, .bool false, .bool false, .bool false, .slice none 0 0]
/-- A node stored where seven cells are. -/
theorem row_store {B gg cap n : Nat} {w1 : World} {F : List Value} (hF : F.length = n * 7) (h : w1.ownsRow B 49 7 (.slice (some ⟨gg, 0, none⟩) (n + 1) cap) (n + 1) (F ++ zerosN)) (a0 a1 a2 a3 a4 a5 a6 : Value) :
    (((((((w1.setCell ⟨gg, n * 7, none⟩ a0).setCell ⟨gg, n * 7 + 1, none⟩ a1).setCell ⟨gg, n * 7 + 2, none⟩ a2).setCell ⟨gg, n * 7 + 3, none⟩ a3).setCell ⟨gg, n * 7 + 4, none⟩ a4).setCell ⟨gg, n * 7 + 5, none⟩ a5).setCell ⟨gg, n * 7 + 6, none⟩ a6).ownsRow B 49 7 (.slice (some ⟨gg, 0, none⟩) (n + 1) cap) (n + 1) (F ++ [a0, a1, a2, a3, a4, a5, a6]) := by
  have k0 := (h.stored (n * 7) a0).1
  have k1 := (k0.stored (n * 7 + 1) a1).1
  have k2 := (k1.stored (n * 7 + 2) a2).1
  have k3 := (k2.stored (n * 7 + 3) a3).1
  have k4 := (k3.stored (n * 7 + 4) a4).1
  have k5 := (k4.stored (n * 7 + 5) a5).1
  have k6 := (k5.stored (n * 7 + 6) a6).1
  have hs : ∀ (j : Nat) (l : List Value) (u : Value), (F ++ l).set (n * 7 + j) u = F ++ l.set j u := fun j l u => by
    rw [List.set_append_right _ _ (by omega), hF, Nat.add_sub_cancel_left]
  rw [show n * 7 = n * 7 + 0 from rfl, hs 0, hs 1, hs 2, hs 3, hs 4, hs 5, hs 6] at k6
  exact k6
theorem zero_cells {B gg cap n : Nat} {w1 : World} {F : List Value} (hF : F.length = n * 7) (h : w1.ownsRow B 49 7 (.slice (some ⟨gg, 0, none⟩) (n + 1) cap) (n + 1) (F ++ zerosN)) : ∀ j u, zerosN[j]? = some u → w1.cell? ⟨gg, n * 7 + j, none⟩ = some u := fun j u hu => by
  have hj : j < 7 := (List.getElem?_eq_some_iff.1 hu).1
  rw [h.cellAt (n * 7 + j) (by omega), List.getElem?_append_right (by omega), hF, Nat.add_sub_cancel_left, hu]
theorem far_block {v : Value} {gg H x : Nat} (hat : v.ownBlock = some gg ∨ gg = H) (hne : v.ownBlock ≠ some x) (hx : x < H) : gg ≠ x := by
  rintro rfl
  rcases hat with hat | hat
  · exact hne hat
  · omega
theorem gb_trans {a b c : World} {row : Option Nat} (h : a.grownBy b row) (k : b.grownBy c row) : a.grownBy c row :=
  ⟨k.os.trans h.os, k.tape.trans h.tape, k.output.trans h.output, Nat.le_trans h.size k.size, fun i hi hne => (k.block i (Nat.lt_of_lt_of_le hi h.size) hne).trans (h.block i hi hne)⟩
theorem gb_below {a b : World} (h : Below a.heap.size a b) (row : Option Nat) : a.grownBy b row := ⟨h.os, h.tape, h.output, h.size, fun i hi _ => h.block i hi⟩
theorem gb_set {a w : World} {row : Option Nat} (h : a.grownBy w row) {p : Addr} (hp : some p.block = row ∨ a.heap.size ≤ p.block) (u : Value) : a.grownBy (w.setCell p u) row :=
  ⟨h.os, h.tape, h.output, by simpa [World.setCell] using h.size, fun i hi hne => (Below.heap_setCell w p u i (by
    rintro rfl
    rcases hp with hp | hp
    · exact hne hp
    · omega)).trans (h.block i hi hne)⟩
/-- Stores in two blocks change places. -/
theorem sc_far {w : World} {g gg a b : Nat} (h : gg ≠ g) (u v : Value) : (w.setCell ⟨g, a, none⟩ u).setCell ⟨gg, b, none⟩ v = (w.setCell ⟨gg, b, none⟩ v).setCell ⟨g, a, none⟩ u := by
  have e : ∀ (A : Array Obj) (f f' : Obj → Obj), (A.modify g f).modify gg f' = (A.modify gg f').modify g f := fun A f f' => by
    apply Array.ext_getElem?
    intro i
    rw [Array.getElem?_modify, Array.getElem?_modify, Array.getElem?_modify, Array.getElem?_modify]
    by_cases h1 : gg = i
    · subst h1; rw [if_pos rfl, if_pos rfl, if_neg (Ne.symm h), if_neg (Ne.symm h)]
    · rw [if_neg h1, if_neg h1]
  unfold World.setCell
  simp only [e]
/-- What add leaves. -/
theorem add_fin {B g c gg cap xn xc uc : Nat} {w W w1 : World} {es : List Ent} {et t : Tok} {ek k : List Nd} {fs : List Fl} {ua xa : Option Addr} {o : Obj}
    (HH : Hid (StkM B w (.slice (some ⟨g, 0, none⟩) (es.length + 1) c) (es ++ [⟨et, ek, .slice ua fs.length uc, fs⟩])))
    (HN : Hid (RdN w (Free B (.slice (some ⟨g, 0, none⟩) (es.length + 1) c) (es ++ [⟨et, ek, .slice ua fs.length uc, fs⟩])) (.slice xa xn xc) k))
    (hB : B ≤ w.heap.size) (hB1 : Below w.heap.size w W) (hW : Hid (W.heap.size = w.heap.size + 1)) (HF : Hid ((fs.flatMap ncells).length = fs.length * 7))
    (HOWN : Hid (w1.ownsRow B 49 7 (.slice (some ⟨gg, 0, none⟩) (fs.length + 1) cap) (fs.length + 1) (fs.flatMap ncells ++ zerosN)))
    (HAT : Hid ((Value.slice ua fs.length uc).ownBlock = some gg ∨ gg = W.heap.size + 1)) (HGR : Hid ((W.alloc o).drew.grownBy w1 (Value.slice ua fs.length uc).ownBlock)) :
    (∃ u fs', StkM B ((((((((w1.setCell ⟨gg, fs.length * 7, none⟩ (.int .i64 t.kind)).setCell ⟨gg, fs.length * 7 + 1, none⟩ (.string t.text)).setCell ⟨gg, fs.length * 7 + 2, none⟩ (.int .i64 t.int)).setCell ⟨gg, fs.length * 7 + 3, none⟩ (.bool t.whole)).setCell ⟨gg, fs.length * 7 + 4, none⟩ (.bool t.sign)).setCell ⟨gg, fs.length * 7 + 5, none⟩ (.bool t.id)).setCell ⟨gg, fs.length * 7 + 6, none⟩ (.slice xa xn xc)).setCell ⟨g, es.length * 7 + 6, none⟩ (.slice (some ⟨gg, 0, none⟩) (fs.length + 1) cap)) (.slice (some ⟨g, 0, none⟩) (es.length + 1) c) (es ++ [⟨et, ek ++ [.mk t k], u, fs'⟩]) ∧ fs'.length = (ek ++ [Nd.mk t k]).length) ∧
    Below B w ((((((((w1.setCell ⟨gg, fs.length * 7, none⟩ (.int .i64 t.kind)).setCell ⟨gg, fs.length * 7 + 1, none⟩ (.string t.text)).setCell ⟨gg, fs.length * 7 + 2, none⟩ (.int .i64 t.int)).setCell ⟨gg, fs.length * 7 + 3, none⟩ (.bool t.whole)).setCell ⟨gg, fs.length * 7 + 4, none⟩ (.bool t.sign)).setCell ⟨gg, fs.length * 7 + 5, none⟩ (.bool t.id)).setCell ⟨gg, fs.length * 7 + 6, none⟩ (.slice xa xn xc)).setCell ⟨g, es.length * 7 + 6, none⟩ (.slice (some ⟨gg, 0, none⟩) (fs.length + 1) cap)) := by
  have hh := HH.out
  have hmem : (⟨et, ek, .slice ua fs.length uc, fs⟩ : Ent) ∈ es ++ [⟨et, ek, .slice ua fs.length uc, fs⟩] := by simp
  have hk := hh.kids _ hmem
  have hlen := hk.2.len
  have hbl := hk.1.block
  have hgB := (hh.row.block g rfl).1
  have hR := row_store HF.out HOWN.out (.int .i64 t.kind) (.string t.text) (.int .i64 t.int) (.bool t.whole) (.bool t.sign) (.bool t.id) (.slice xa xn xc)
  have hG0 : w.grownBy w1 (Value.slice ua fs.length uc).ownBlock := gb_trans (gb_below (below_seq hB1 (((Below.refl W.heap.size W).alloc (Nat.le_refl _) o).drew)) _) HGR.out
  have hgg : some gg = (Value.slice ua fs.length uc).ownBlock ∨ w.heap.size ≤ gg := by
    rcases HAT.out with h | h
    · exact .inl h.symm
    · exact .inr (by have := hW.out; omega)
  have hG : w.grownBy (((((((w1.setCell ⟨gg, fs.length * 7, none⟩ (.int .i64 t.kind)).setCell ⟨gg, fs.length * 7 + 1, none⟩ (.string t.text)).setCell ⟨gg, fs.length * 7 + 2, none⟩ (.int .i64 t.int)).setCell ⟨gg, fs.length * 7 + 3, none⟩ (.bool t.whole)).setCell ⟨gg, fs.length * 7 + 4, none⟩ (.bool t.sign)).setCell ⟨gg, fs.length * 7 + 5, none⟩ (.bool t.id)).setCell ⟨gg, fs.length * 7 + 6, none⟩ (.slice xa xn xc)) (Value.slice ua fs.length uc).ownBlock :=
    gb_set (gb_set (gb_set (gb_set (gb_set (gb_set (gb_set hG0 hgg _) hgg _) hgg _) hgg _) hgg _) hgg _) hgg _
  have hS := hh.add (x := .slice xa xn xc) (t := t) (k := k) (v'' := .slice (some ⟨gg, 0, none⟩) (fs.length + 1) cap) HN.out (by
    unfold RowF
    rw [List.length_append, List.flatMap_append]
    simpa [ncells, tcells] using hR) hG (by
    rcases HAT.out with h | h
    · exact .inl h.symm
    · exact .inr ⟨gg, rfl, by have := hW.out; omega⟩)
  refine ⟨⟨_, _, hS, by rw [List.length_append, List.length_append, hlen]; rfl⟩, ?_⟩
  have hbw : Below B w _ := ⟨hG.os, hG.tape, hG.output, hG.size, fun i hi => hG.block i (by omega) fun e => by have := (hbl i e.symm).1; omega⟩
  exact hbw.setCell (by show B ≤ g; exact hgB) _
def AddPost (B g c : Nat) (es : List Ent) (et : Tok) (ek : List Nd) (w : World) (e : Ending) (w' : World) : Prop :=
  e = .returned (.tuple #[]) ∧ (∃ u fs, StkM B w' (.slice (some ⟨g, 0, none⟩) (es.length + 1) c) (es ++ [⟨et, ek, u, fs⟩]) ∧ fs.length = ek.length) ∧ Below B w w'
attribute [local go_sem ↓] Go.wp_at_zero Go.wp_at_succ
set_option maxRecDepth 100000 in
set_option maxHeartbeats 32000000 in
theorem add_some {B sb g c : Nat} {w : World} {es : List Ent} {e : Ent} {t : Tok} {x : Value} {k : List Nd} (h : StkM B w (.slice (some ⟨g, 0, none⟩) (es.length + 1) c) (es ++ [e])) (hn : RdN w (Free B (.slice (some ⟨g, 0, none⟩) (es.length + 1) c) (es ++ [e])) x k)
    (hs : VarS sb w (.slice (some ⟨g, 0, none⟩) (es.length + 1) c)) (hB : B ≤ w.heap.size) (hl : es.length + 1 < 32) (hfs : e.fs.length ≤ 100000000) :
    Calls Tryz.prog 70 #[.pointer (some ⟨sb, 0, none⟩), nval t x] w (AddPost B g c es e.t (e.k ++ [.mk t k]) w) := by
  obtain ⟨i0, hi, hz0, hz1, hz2⟩ := info_parts info_node
  obtain ⟨c0, c1, c2, c3, c4, c5, c6⟩ := h.last
  have hgl := (h.row.block g rfl).2
  have hle : es.length + 1 ≤ c := by
    rcases h.shape with ⟨h1, _⟩ | ⟨g', c', h1, h2, _⟩
    · cases h1
    · injection h1 with _ _ h4; rw [h4]; simpa using h2
  have hmem : e ∈ es ++ [e] := by simp
  have hrow := (h.kids e hmem).1
  have hne : e.u.ownBlock ≠ some g := h.top e hmem g rfl
  have hbl := hrow.block
  obtain ⟨xa, xn, xc, hx⟩ := hn.sl
  subst hx
  obtain ⟨ua, un, uc, hu⟩ := hrow.sl
  have HH := Lib.hid h
  have HN := Lib.hid hn
  have hgf : w.frozen? ⟨g, es.length * 7 + 6, none⟩ = false := by
    have hr := h.row
    unfold RowF at hr
    have hh : w.ownsRow B 49 7 (.slice (some ⟨g, 0, none⟩) (es.length + 1) c) (es.length + 1) ((List.map Ent.fl (es ++ [e])).flatMap ncells) := by
      have h1 : (List.map Ent.fl (es ++ [e])).length = es.length + 1 := by simp
      rw [h1] at hr
      exact hr
    exact hh.frozenAt _
  have hlu : un = e.fs.length := by
    have hr := hrow
    unfold RowF at hr
    rcases hr.2 with ⟨h1, h0⟩ | ⟨g', cap, cur, hv, _⟩
    · rw [hu] at h1; injection h1 with _ h2 _; omega
    · rw [hu] at hv; injection hv
  subst hlu
  obtain ⟨et, ek, u, fs⟩ := e
  simp only at hu hne hrow hbl c6 hfs ⊢
  subst hu
  unfold RowF at hrow
  clear h hn hmem c0 c1 c2 c3 c4 c5
  have hB1 := (Below.refl w.heap.size w).alloc (Nat.le_refl _) (.cells #[.int .i64 t.kind, .string t.text, .int .i64 t.int, .bool t.whole, .bool t.sign, .bool t.id, .slice xa xn xc] 49)
  have hsl : sb < w.heap.size := (Array.getElem?_eq_some_iff.1 hs).1
  have hv : w.cell? ⟨sb, 0, none⟩ = some (.slice (some ⟨g, 0, none⟩) (es.length + 1) c) := by unfold VarS at hs; simp [World.cell?, hs]
  replace hv := (hB1.cell (p := ⟨sb, 0, none⟩) hsl).trans hv
  clear hs
  go_enter Tryz.func70, Tryz.ntmps70
  go_wp2
  have x0 : (w.alloc (.cells #[.int .i64 t.kind, .string t.text, .int .i64 t.int, .bool t.whole, .bool t.sign, .bool t.id, .slice xa xn xc] 49)).heap[w.heap.size]? = some (.cells #[.int .i64 t.kind, .string t.text, .int .i64 t.int, .bool t.whole, .bool t.sign, .bool t.id, .slice xa xn xc] 49) := heap_alloc_self _ _
  have hown := hrow.alloc (.cells #[.int .i64 t.kind, .string t.text, .int .i64 t.int, .bool t.whole, .bool t.sign, .bool t.id, .slice xa xn xc] 49)
  have hW : (w.alloc (.cells #[.int .i64 t.kind, .string t.text, .int .i64 t.int, .bool t.whole, .bool t.sign, .bool t.id, .slice xa xn xc] 49)).heap.size = w.heap.size + 1 := by simp
  replace c6 := (hB1.cell (p := ⟨g, es.length * 7 + 6, none⟩) hgl).trans c6
  replace hgf := (hB1.frozen (p := ⟨g, es.length * 7 + 6, none⟩) hgl).trans hgf
  generalize w.alloc (.cells #[.int .i64 t.kind, .string t.text, .int .i64 t.int, .bool t.whole, .bool t.sign, .bool t.id, .slice xa xn xc] 49) = W at *
  have y0 : W.cell? ⟨w.heap.size, 0, none⟩ = some (.int .i64 t.kind) := by simp [World.cell?, x0]
  have y1 : W.cell? ⟨w.heap.size, 1, none⟩ = some (.string t.text) := by simp [World.cell?, x0]
  have y2 : W.cell? ⟨w.heap.size, 2, none⟩ = some (.int .i64 t.int) := by simp [World.cell?, x0]
  have y3 : W.cell? ⟨w.heap.size, 3, none⟩ = some (.bool t.whole) := by simp [World.cell?, x0]
  have y4 : W.cell? ⟨w.heap.size, 4, none⟩ = some (.bool t.sign) := by simp [World.cell?, x0]
  have y5 : W.cell? ⟨w.heap.size, 5, none⟩ = some (.bool t.id) := by simp [World.cell?, x0]
  have y6 : W.cell? ⟨w.heap.size, 6, none⟩ = some (.slice xa xn xc) := by simp [World.cell?, x0]
  have hnbx : (Value.slice ua fs.length uc).ownBlock ≠ some w.heap.size := fun e => by have := (hbl _ e).2; omega
  have hgbx : g ≠ w.heap.size := by omega
  have hi0' : (0 : Int) ≤ (fs.length : Int) := by omega
  have hAl := (Below.refl W.heap.size W).alloc (Nat.le_refl _) (.cells #[.int .i64 0, .string ⟨#[]⟩, .int .i64 0, .bool false, .bool false, .bool false, .slice none 0 0] 49)
  have hWlt0 : w.heap.size < W.heap.size := by omega
  have a6 := (hAl.cell (p := ⟨g, es.length * 7 + 6, none⟩) (by show g < W.heap.size; omega)).trans c6
  have a7 := (hAl.frozen (p := ⟨g, es.length * 7 + 6, none⟩) (by show g < W.heap.size; omega)).trans hgf
  have b0 := (hAl.cell (p := ⟨w.heap.size, 0, none⟩) hWlt0).trans y0
  have b1 := (hAl.cell (p := ⟨w.heap.size, 1, none⟩) hWlt0).trans y1
  have b2 := (hAl.cell (p := ⟨w.heap.size, 2, none⟩) hWlt0).trans y2
  have b3 := (hAl.cell (p := ⟨w.heap.size, 3, none⟩) hWlt0).trans y3
  have b4 := (hAl.cell (p := ⟨w.heap.size, 4, none⟩) hWlt0).trans y4
  have b5 := (hAl.cell (p := ⟨w.heap.size, 5, none⟩) hWlt0).trans y5
  have b6 := (hAl.cell (p := ⟨w.heap.size, 6, none⟩) hWlt0).trans y6
  clear hAl
  have hi1' : (fs.length : Int) < (fs.length : Int) + 1 := by omega
  have hHW := Lib.hid hW
  have hWlt : w.heap.size < W.heap.size := by omega
  have hBW : B ≤ W.heap.size := by omega
  have hF : (fs.flatMap ncells).length = fs.length * 7 := ncellsL_len fs
  have HF := Lib.hid hF
  clear x0 hrow hW hF
  go_region_law
    ((refine step_append_lies _ (by rfl) _ _ _ (by rfl) B 49 i0 _ 7 64 Tryz.underlying30 hi hz0 hz1 hz2 rfl (by omega) (.slice ua fs.length uc) fs.length (fs.flatMap ncells) (by rfl) ((hown.alloc _).drew) ⟨W.heap.size, 0, none⟩ 1 1 zerosN (by rfl) (by rfl) (World.news_of_block (cs := #[.int .i64 0, .string ⟨#[]⟩, .int .i64 0, .bool false, .bool false, .bool false, .slice none 0 0]) (t := 49) (fr := (0, 0)) (heap_alloc_new W _)) (by simp [zerosN, Value.oneCell']) (by omega) (by unfold maxLen; omega) (by omega) (by simp; omega) (W.heap.size + 1) (by simp) ?_; intro gg cap w1 hown1 hgrow hat hlt; have zz := zero_cells HF.out hown1; have z0 : w1.cell? ⟨gg, fs.length * 7, none⟩ = some (.int .i64 0) := zz 0 _ rfl; have z1 := zz 1 _ rfl; have z2 := zz 2 _ rfl; have z3 := zz 3 _ rfl; have z4 := zz 4 _ rfl; have z5 := zz 5 _ rfl; have z6 := zz 6 _ rfl; have ff := hown1.frozenAt; have f0 := ff (fs.length * 7); have f1 := ff (fs.length * 7 + 1); have f2 := ff (fs.length * 7 + 2); have f3 := ff (fs.length * 7 + 3); have f4 := ff (fs.length * 7 + 4); have f5 := ff (fs.length * 7 + 5); have f6 := ff (fs.length * 7 + 6); have HOWN := Lib.hid hown1; have HAT := Lib.hid hat; have HGR := Lib.hid hgrow; have hgg : gg ≠ g := far_block hat hne (by omega); have hgg2 : gg ≠ w.heap.size := far_block hat hnbx (by omega); have hgf1 : w1.frozen? ⟨g, es.length * 7 + 6, none⟩ = false := (hgrow.frozen_far ⟨g, es.length * 7 + 6, none⟩ (by simp; omega) (Ne.symm hne)).trans ((((Below.refl W.heap.size W).alloc (Nat.le_refl _) _).drew.frozen (p := ⟨g, es.length * 7 + 6, none⟩) (by show g < W.heap.size; omega)).trans hgf); have hgc1 : w1.cell? ⟨g, es.length * 7 + 6, none⟩ = some (.slice ua fs.length uc) := (hgrow.cell_far ⟨g, es.length * 7 + 6, none⟩ (by simp; omega) (Ne.symm hne)).trans ((((Below.refl W.heap.size W).alloc (Nat.le_refl _) _).drew.cell (p := ⟨g, es.length * 7 + 6, none⟩) (by show g < W.heap.size; omega)).trans c6); have far : ∀ (i : Nat) (y : Value), W.cell? ⟨w.heap.size, i, none⟩ = some y → w1.cell? ⟨w.heap.size, i, none⟩ = some y := fun i y hy => (hgrow.cell_far ⟨w.heap.size, i, none⟩ (by simp; omega) (Ne.symm hnbx)).trans ((((Below.refl W.heap.size W).alloc (Nat.le_refl _) _).drew.cell (p := ⟨w.heap.size, i, none⟩) (by show w.heap.size < W.heap.size; omega)).trans hy); have yy0 := far 0 _ y0; have yy1 := far 1 _ y1; have yy2 := far 2 _ y2; have yy3 := far 3 _ y3; have yy4 := far 4 _ y4; have yy5 := far 5 _ y5; have yy6 := far 6 _ y6; clear zz ff hown1 hat hgrow far))
  all_goals go_end0
  all_goals refine ⟨rfl, ?_⟩
  all_goals (try simp only [sc_far hgg])
  all_goals with_reducible exact add_fin HH HN hB hB1 hHW HF HOWN HAT HGR
set_option maxRecDepth 100000 in
set_option maxHeartbeats 1600000 in
theorem add_full {B sb g c : Nat} {w : World} {es : List Ent} {e : Ent} {t : Tok} {x : Value} {k : List Nd} (h : StkM B w (.slice (some ⟨g, 0, none⟩) (es.length + 1) c) (es ++ [e])) (hn : RdN w (Free B (.slice (some ⟨g, 0, none⟩) (es.length + 1) c) (es ++ [e])) x k)
    (hs : VarS sb w (.slice (some ⟨g, 0, none⟩) (es.length + 1) c)) (hB : B ≤ w.heap.size) (hl : ¬ es.length + 1 < 32) (hl2 : es.length ≤ 100000000) :
    Calls Tryz.prog 70 #[.pointer (some ⟨sb, 0, none⟩), nval t x] w (AddPost B g c es e.t e.k w) := by
  obtain ⟨xa, xn, xc, hx⟩ := hn.sl
  subst hx
  have hsl : sb < w.heap.size := (Array.getElem?_eq_some_iff.1 hs).1
  have hv : w.cell? ⟨sb, 0, none⟩ = some (.slice (some ⟨g, 0, none⟩) (es.length + 1) c) := by unfold VarS at hs; simp [World.cell?, hs]
  have hB1 := (Below.refl w.heap.size w).alloc (Nat.le_refl _) (.cells #[.int .i64 t.kind, .string t.text, .int .i64 t.int, .bool t.whole, .bool t.sign, .bool t.id, .slice xa xn xc] 49)
  replace hv := (hB1.cell (p := ⟨sb, 0, none⟩) hsl).trans hv
  have hl3 : ¬ (es.length : Int) + 1 < 32 := by omega
  have hmem : e ∈ es ++ [e] := by simp
  have hlen := (h.kids e hmem).2.len
  have hk := h.keep (World.grownBy_alloc w (.cells #[.int .i64 t.kind, .string t.text, .int .i64 t.int, .bool t.whole, .bool t.sign, .bool t.id, .slice xa xn xc] 49) none) (by intro k hk; simp at hk)
  have HK := Lib.hid hk
  clear hs hn h hk hl hmem
  go_enter Tryz.func70, Tryz.ntmps70
  go_wp2
  go_end0
  exact ⟨rfl, ⟨e.u, e.fs, HK.out, hlen⟩, hB1.mono hB⟩
theorem add_any {B sb g c : Nat} {w : World} {es : List Ent} {e : Ent} {t : Tok} {x : Value} {k : List Nd} (h : StkM B w (.slice (some ⟨g, 0, none⟩) (es.length + 1) c) (es ++ [e])) (hn : RdN w (Free B (.slice (some ⟨g, 0, none⟩) (es.length + 1) c) (es ++ [e])) x k)
    (hs : VarS sb w (.slice (some ⟨g, 0, none⟩) (es.length + 1) c)) (hB : B ≤ w.heap.size) (hl2 : es.length ≤ 100000000) (hfs : e.fs.length ≤ 100000000) :
    Calls Tryz.prog 70 #[.pointer (some ⟨sb, 0, none⟩), nval t x] w (AddPost B g c es e.t (if es.length + 1 < 32 then e.k ++ [.mk t k] else e.k) w) := by
  by_cases hl : es.length + 1 < 32
  · rw [if_pos hl]; exact add_some h hn hs hB hl hfs
  · rw [if_neg hl]; exact add_full h hn hs hB hl hl2
end Go.Proofs.YtfggpenfdfklkaaGreat
namespace Go.Proofs.YtfggpenfdfklkaaGreat
open Go.RowKit
theorem below_drawn (B : Nat) (w : World) (n : Nat) : Below B w (w.drewN n) := ⟨rfl, rfl, rfl, Nat.le_refl _, fun _ _ => rfl⟩
def clsE (e : Tok) (t : Tok) : Bool := (t.kind == 20) && (t.text.toList == (cloB e).toList)
set_option maxRecDepth 100000 in
set_option maxHeartbeats 1600000 in
theorem closes_none {a : Option Addr} {c : Nat} (t : Tok) (w : World) :
    Calls Tryz.prog 67 #[.slice a 0 c, t.val] w fun e w' => e = .returned (.bool false) ∧ Below w.heap.size w w' := by
  have hB1 := ((Below.refl w.heap.size w).alloc (Nat.le_refl _) (.cells #[.int .i64 t.kind, .string t.text, .int .i64 t.int, .bool t.whole, .bool t.sign, .bool t.id] 47))
  simp only [Tok.val]
  go_enter Tryz.func67, Tryz.ntmps67
  go_wp2
  go_quiet (fail)
  go_wp2
  go_ret
  exact ⟨rfl, hB1.trans (below_drawn _ _ _)⟩
set_option maxRecDepth 100000 in
set_option maxHeartbeats 1600000 in
theorem closes_kind {a : Option Addr} {n c : Nat} (t : Tok) (w : World) (hk : (t.kind == 20) = false) (_hn : n ≤ 100000000) :
    Calls Tryz.prog 67 #[.slice a (n + 1) c, t.val] w fun e w' => e = .returned (.bool false) ∧ Below w.heap.size w w' := by
  have hB1 := ((Below.refl w.heap.size w).alloc (Nat.le_refl _) (.cells #[.int .i64 t.kind, .string t.text, .int .i64 t.int, .bool t.whole, .bool t.sign, .bool t.id] 47))
  simp only [Tok.val]
  have x0 : (w.alloc (.cells #[.int .i64 t.kind, .string t.text, .int .i64 t.int, .bool t.whole, .bool t.sign, .bool t.id] 47)).heap[w.heap.size]? = some (.cells #[.int .i64 t.kind, .string t.text, .int .i64 t.int, .bool t.whole, .bool t.sign, .bool t.id] 47) := heap_alloc_self _ _
  go_enter Tryz.func67, Tryz.ntmps67
  go_wp2
  generalize w.alloc (.cells #[.int .i64 t.kind, .string t.text, .int .i64 t.int, .bool t.whole, .bool t.sign, .bool t.id] 47) = W at *
  have y0 : W.cell? ⟨w.heap.size, 0, none⟩ = some (.int .i64 t.kind) := by simp [World.cell?, x0]
  clear x0
  go_quiet (fail)
  go_wp2
  go_ret
  exact ⟨rfl, hB1.trans (below_drawn _ _ _)⟩
set_option maxRecDepth 100000 in
set_option maxHeartbeats 3200000 in
theorem closes_text {g n c : Nat} (e t : Tok) (w : World) (hk : (t.kind == 20) = true) (hn : n ≤ 100000000) (_hle : n + 1 ≤ c) (hgl : g < w.heap.size) (u : Value) (hat : NAt w g (n * 7) e u) :
    Calls Tryz.prog 67 #[.slice (some ⟨g, 0, none⟩) (n + 1) c, t.val] w fun r w' => r = .returned (.bool (t.text.toList == (cloB e).toList)) ∧ Below w.heap.size w w' := by
  have hB1 := ((Below.refl w.heap.size w).alloc (Nat.le_refl _) (.cells #[.int .i64 t.kind, .string t.text, .int .i64 t.int, .bool t.whole, .bool t.sign, .bool t.id] 47))
  simp only [Tok.val]
  have x0 : (w.alloc (.cells #[.int .i64 t.kind, .string t.text, .int .i64 t.int, .bool t.whole, .bool t.sign, .bool t.id] 47)).heap[w.heap.size]? = some (.cells #[.int .i64 t.kind, .string t.text, .int .i64 t.int, .bool t.whole, .bool t.sign, .bool t.id] 47) := heap_alloc_self _ _
  have hWs : (w.alloc (.cells #[.int .i64 t.kind, .string t.text, .int .i64 t.int, .bool t.whole, .bool t.sign, .bool t.id] 47)).heap.size = w.heap.size + 1 := by simp
  obtain ⟨c0, c1, c2, c3, c4, c5, _⟩ := hat
  replace c0 := (hB1.cell (p := ⟨g, n * 7, none⟩) hgl).trans c0
  replace c1 := (hB1.cell (p := ⟨g, n * 7 + 1, none⟩) hgl).trans c1
  replace c2 := (hB1.cell (p := ⟨g, n * 7 + 2, none⟩) hgl).trans c2
  replace c3 := (hB1.cell (p := ⟨g, n * 7 + 3, none⟩) hgl).trans c3
  replace c4 := (hB1.cell (p := ⟨g, n * 7 + 4, none⟩) hgl).trans c4
  replace c5 := (hB1.cell (p := ⟨g, n * 7 + 5, none⟩) hgl).trans c5
  go_enter Tryz.func67, Tryz.ntmps67
  go_wp2
  generalize w.alloc (.cells #[.int .i64 t.kind, .string t.text, .int .i64 t.int, .bool t.whole, .bool t.sign, .bool t.id] 47) = W at *
  have y0 : W.cell? ⟨w.heap.size, 0, none⟩ = some (.int .i64 t.kind) := by simp [World.cell?, x0]
  have y1 : W.cell? ⟨w.heap.size, 1, none⟩ = some (.string t.text) := by simp [World.cell?, x0]
  have hWg : g < W.heap.size := by omega
  have hWb : w.heap.size < W.heap.size := by omega
  have hsum : IntKind.i64.wrap ((n : Int) + 1 - 1) = (n : Int) := by rw [IntKind.wrap_i64]; omega
  have hi0 : (0 : Int) ≤ (n : Int) := by omega
  have hi1 : (n : Int) < (n : Int) + 1 := by omega
  have hsum2 : IntKind.i64.wrap (n : Int) = (n : Int) := by rw [IntKind.wrap_i64]; omega
  have hWs2 := Lib.hid hWs
  clear x0 hWs
  go_region_held3 (fun w' => w'.cell? ⟨w.heap.size, 0, none⟩ = some (.int .i64 t.kind) ∧ w'.cell? ⟨w.heap.size, 1, none⟩ = some (.string t.text) ∧ w'.cell? ⟨g, n * 7, none⟩ = some (.int .i64 e.kind) ∧ w'.cell? ⟨g, n * 7 + 1, none⟩ = some (.string e.text) ∧ w'.cell? ⟨g, n * 7 + 2, none⟩ = some (.int .i64 e.int) ∧ w'.cell? ⟨g, n * 7 + 3, none⟩ = some (.bool e.whole) ∧ w'.cell? ⟨g, n * 7 + 4, none⟩ = some (.bool e.sign) ∧ w'.cell? ⟨g, n * 7 + 5, none⟩ = some (.bool e.id)) (go_keep)
    ((go_at_call 69; refine (closer_any e _).mono ?_; rintro r w2 ⟨rfl, hb2⟩; have k0 : w2.cell? ⟨w.heap.size, 0, none⟩ = some (.int .i64 t.kind) := (hb2.cell (p := ⟨w.heap.size, 0, none⟩) hWb).trans y0; have k1 : w2.cell? ⟨w.heap.size, 1, none⟩ = some (.string t.text) := (hb2.cell (p := ⟨w.heap.size, 1, none⟩) hWb).trans y1; have k2 : w2.cell? ⟨g, n * 7, none⟩ = some (.int .i64 e.kind) := (hb2.cell (p := ⟨g, n * 7, none⟩) hWg).trans c0; have k3 : w2.cell? ⟨g, n * 7 + 1, none⟩ = some (.string e.text) := (hb2.cell (p := ⟨g, n * 7 + 1, none⟩) hWg).trans c1; have k4 : w2.cell? ⟨g, n * 7 + 2, none⟩ = some (.int .i64 e.int) := (hb2.cell (p := ⟨g, n * 7 + 2, none⟩) hWg).trans c2; have k5 : w2.cell? ⟨g, n * 7 + 3, none⟩ = some (.bool e.whole) := (hb2.cell (p := ⟨g, n * 7 + 3, none⟩) hWg).trans c3; have k6 : w2.cell? ⟨g, n * 7 + 4, none⟩ = some (.bool e.sign) := (hb2.cell (p := ⟨g, n * 7 + 4, none⟩) hWg).trans c4; have k7 : w2.cell? ⟨g, n * 7 + 5, none⟩ = some (.bool e.id) := (hb2.cell (p := ⟨g, n * 7 + 5, none⟩) hWg).trans c5; have HB2 := Lib.hid hb2; clear hb2))
  all_goals go_wp2
  all_goals go_ret
  all_goals exact ⟨rfl, below_seq (below_seq hB1 ((Below.refl _ W).drew)) HB2.out⟩
/-- Does a token end the innermost block? -/
def clsT (es : List Ent) (t : Tok) : Bool := match es.getLast? with
  | none => false
  | some e => clsE e.t t
theorem closes_any {B : Nat} {w : World} {v : Value} {es : List Ent} (h : StkM B w v es) (t : Tok) (hl : es.length ≤ 100000000) :
    Calls Tryz.prog 67 #[v, t.val] w fun r w' => r = .returned (.bool (clsT es t)) ∧ Below w.heap.size w w' := by
  rcases List.eq_nil_or_concat es with rfl | ⟨es', e, rfl⟩
  · rcases h.shape with ⟨rfl, _⟩ | ⟨g, c, rfl, _⟩
    · exact closes_none t w
    · exact closes_none t w
  · have e1 : clsT (es'.concat e) t = clsE e.t t := by simp [clsT]
    rw [e1]
    rw [List.concat_eq_append] at h hl
    rw [List.length_append] at hl
    rcases h.shape with ⟨_, hn⟩ | ⟨g, c, rfl, h2, _, hg⟩
    · simp at hn
    · have hlen : (es' ++ [e]).length = es'.length + 1 := by simp
      rw [hlen] at h h2 ⊢
      by_cases hk : (t.kind == 20) = true
      · have := closes_text e.t t w hk (by omega) h2 hg e.u h.last
        unfold clsE
        rw [hk, Bool.true_and]
        exact this
      · have hk : (t.kind == 20) = false := by simpa using hk
        unfold clsE
        rw [hk, Bool.false_and]
        exact closes_kind t w hk (by omega)
end Go.Proofs.YtfggpenfdfklkaaGreat
