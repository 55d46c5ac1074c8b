
import Derived.Test.YtfggpenfdfklkaaGreatNsE
import Derived.Deep.Cut
import Derived.Deep.CutRange
import Derived.Deep.DeepCutAuto
namespace Go.Proofs.YtfggpenfdfklkaaGreat
open Go.RowKit
/-! One: what is open, in memory and as the machine has it. -/
def stkOf (es : List Ent) : Stk := (es.map fun e => (e.t, e.k)).reverse
theorem stkOf_snoc (es : List Ent) (e : Ent) : stkOf (es ++ [e]) = (e.t, e.k) :: stkOf es := by unfold stkOf; simp
theorem stkOf_len (es : List Ent) : (stkOf es).length = es.length := by unfold stkOf; simp
theorem cls_stk (es : List Ent) (t : Tok) : closesS (stkOf es) t = clsT es t := by
  rcases List.eq_nil_or_concat es with rfl | ⟨es', e, rfl⟩
  · rfl
  · rw [List.concat_eq_append, stkOf_snoc]
    have e1 : clsT (es' ++ [e]) t = clsE e.t t := by simp [clsT]
    rw [e1]
    show (decide (t.kind = 20) && _) = ((t.kind == 20) && _)
    rfl
theorem VarS.below {sb B : Nat} {w w' : World} {v : Value} (h : VarS sb w v) (hb : Below B w w') (hs : sb < B) : VarS sb w' v := by
  unfold VarS at h ⊢
  rw [hb.block sb hs]; exact h
theorem VarS.far {sb : Nat} {w w' : World} {v : Value} {row : Option Nat} (h : VarS sb w v) (hg : w.grownBy w' row) (hr : row ≠ some sb) : VarS sb w' v := by
  have hl : sb < w.heap.size := (Array.getElem?_eq_some_iff.1 h).1
  unfold VarS at h ⊢
  rw [hg.block sb hl (fun e => hr e.symm)]; exact h
/-- A block that holds a node. -/
def NB (w : World) (b : Nat) (t : Tok) (u : Value) : Prop := w.heap[b]? = some (.cells #[.int .i64 t.kind, .string t.text, .int .i64 t.int, .bool t.whole, .bool t.sign, .bool t.id, u] 49 (0, 0))
theorem NB.at {w : World} {b : Nat} {t : Tok} {u : Value} (h : NB w b t u) : w.cell? ⟨b, 0, none⟩ = some (.int .i64 t.kind) ∧ w.cell? ⟨b, 1, none⟩ = some (.string t.text) ∧ w.cell? ⟨b, 2, none⟩ = some (.int .i64 t.int) ∧
    w.cell? ⟨b, 3, none⟩ = some (.bool t.whole) ∧ w.cell? ⟨b, 4, none⟩ = some (.bool t.sign) ∧ w.cell? ⟨b, 5, none⟩ = some (.bool t.id) ∧ w.cell? ⟨b, 6, none⟩ = some u := by
  unfold NB at h
  simp [World.cell?, h]
theorem NB.frz {w : World} {b : Nat} {t : Tok} {u : Value} (h : NB w b t u) : ∀ j, w.frozen? ⟨b, j, none⟩ = false := fun j => by
  unfold NB at h
  simp [World.frozen?, h]
theorem NB.new (w : World) (t : Tok) (u : Value) : NB (w.alloc (.cells #[.int .i64 t.kind, .string t.text, .int .i64 t.int, .bool t.whole, .bool t.sign, .bool t.id, u] 49)) w.heap.size t u := heap_alloc_self _ _
theorem NB.lt {w : World} {b : Nat} {t : Tok} {u : Value} (h : NB w b t u) : b < w.heap.size := (Array.getElem?_eq_some_iff.1 h).1
theorem NB.below {w w' : World} {b B : Nat} {t : Tok} {u : Value} (h : NB w b t u) (hb : Below B w w') (hB : b < B) : NB w' b t u := by
  unfold NB at h ⊢
  rw [hb.block b hB]; exact h
theorem NB.far {w w' : World} {b : Nat} {t : Tok} {u : Value} {row : Option Nat} (h : NB w b t u) (hg : w.grownBy w' row) (hr : row ≠ some b) : NB w' b t u := by
  have hl := h.lt
  unfold NB at h ⊢
  rw [hg.block b hl (fun e => hr e.symm)]; exact h
/-- A node stored there. -/
theorem NB.put {w : World} {b : Nat} {t : Tok} {u : Value} (h : NB w b t u) (t' : Tok) (u' : Value) : NB (((((((w.setCell ⟨b, 0, none⟩ (.int .i64 t'.kind)).setCell ⟨b, 1, none⟩ (.string t'.text)).setCell ⟨b, 2, none⟩ (.int .i64 t'.int)).setCell ⟨b, 3, none⟩ (.bool t'.whole)).setCell ⟨b, 4, none⟩ (.bool t'.sign)).setCell ⟨b, 5, none⟩ (.bool t'.id)).setCell ⟨b, 6, none⟩ u') b t' u' := by
  unfold NB at h ⊢
  have k0 := heap_setCell_same w b 0 _ _ (.int .i64 t'.kind) h
  have k1 := heap_setCell_same _ b 1 _ _ (.string t'.text) k0
  have k2 := heap_setCell_same _ b 2 _ _ (.int .i64 t'.int) k1
  have k3 := heap_setCell_same _ b 3 _ _ (.bool t'.whole) k2
  have k4 := heap_setCell_same _ b 4 _ _ (.bool t'.sign) k3
  have k5 := heap_setCell_same _ b 5 _ _ (.bool t'.id) k4
  have k6 := heap_setCell_same _ b 6 _ _ u' k5
  rw [k6]
  rfl
theorem Gw.put {g b : Nat} {a w : World} (h : Gw g a w) (hb : a.heap.size ≤ b) (t' : Tok) (u' : Value) : Gw g a (((((((w.setCell ⟨b, 0, none⟩ (.int .i64 t'.kind)).setCell ⟨b, 1, none⟩ (.string t'.text)).setCell ⟨b, 2, none⟩ (.int .i64 t'.int)).setCell ⟨b, 3, none⟩ (.bool t'.whole)).setCell ⟨b, 4, none⟩ (.bool t'.sign)).setCell ⟨b, 5, none⟩ (.bool t'.id)).setCell ⟨b, 6, none⟩ u') :=
  ((((((h.set (p := ⟨b, 0, none⟩) (.inr hb) _).set (p := ⟨b, 1, none⟩) (.inr hb) _).set (p := ⟨b, 2, none⟩) (.inr hb) _).set (p := ⟨b, 3, none⟩) (.inr hb) _).set (p := ⟨b, 4, none⟩) (.inr hb) _).set (p := ⟨b, 5, none⟩) (.inr hb) _).set (p := ⟨b, 6, none⟩) (.inr hb) _
theorem VarS.put {sb b : Nat} {w : World} {v : Value} (h : VarS sb w v) (hb : sb ≠ b) (t' : Tok) (u' : Value) : VarS sb (((((((w.setCell ⟨b, 0, none⟩ (.int .i64 t'.kind)).setCell ⟨b, 1, none⟩ (.string t'.text)).setCell ⟨b, 2, none⟩ (.int .i64 t'.int)).setCell ⟨b, 3, none⟩ (.bool t'.whole)).setCell ⟨b, 4, none⟩ (.bool t'.sign)).setCell ⟨b, 5, none⟩ (.bool t'.id)).setCell ⟨b, 6, none⟩ u') v := by
  have e : ∀ {W : World} {x : Value}, VarS sb W v → ∀ j, VarS sb (W.setCell ⟨b, j, none⟩ x) v := fun {W x} h j => by
    unfold VarS at h ⊢
    rw [Below.heap_setCell _ _ _ _ (by exact hb)]
    exact h
  exact e (e (e (e (e (e (e h 0) 1) 2) 3) 4) 5) 6
theorem VarS.cell {sb : Nat} {w : World} {v : Value} (h : VarS sb w v) : w.cell? ⟨sb, 0, none⟩ = some v := by unfold VarS at h; simp [World.cell?, h]
theorem closes_is {B : Nat} {w : World} {v : Value} {es : List Ent} (h : StkM B w v es) (t : Tok) {r : Bool} (hr : clsT es t = r) (hl : es.length ≤ 100000000) :
    Calls Tryz.prog 67 #[v, t.val] w fun e w' => e = .returned (.bool r) ∧ Below w.heap.size w w' := by
  rw [← hr]; exact closes_any h t hl
theorem closer_is {t : Tok} {x : ByteArray} (hx : cloB t = x) (w : World) : Calls Tryz.prog 69 #[t.val] w fun e w' => e = .returned (.string x) ∧ Below w.heap.size w w' := by
  rw [← hx]; exact closer_any t w
theorem StkM.sl0 {B : Nat} {w : World} {v : Value} (h : StkM B w v []) : ∃ a c, v = .slice a 0 c := by
  rcases h.shape with ⟨rfl, _⟩ | ⟨g, c, rfl, _⟩
  · exact ⟨_, _, rfl⟩
  · exact ⟨_, _, rfl⟩
theorem pop_n {B sb g c n : Nat} {w : World} {es : List Ent} {e : Ent} (hn : es.length = n) (h : StkM B w (.slice (some ⟨g, 0, none⟩) (n + 1) c) (es ++ [e])) (hs : VarS sb w (.slice (some ⟨g, 0, none⟩) (n + 1) c)) (hsb : sb < B) (hl : n ≤ 100000000) :
    Calls Tryz.prog 68 #[.pointer (some ⟨sb, 0, none⟩)] w (PopPost sb g n c w (nval e.t e.u)) := by
  subst hn
  exact pop_any h hs hsb hl
theorem add_n {B sb g c n : Nat} {w : World} {es : List Ent} {e : Ent} {t : Tok} {x : Value} {k : List Nd} (hn : es.length = n) (h : StkM B w (.slice (some ⟨g, 0, none⟩) (n + 1) c) (es ++ [e])) (hr : RdN w (Free B (.slice (some ⟨g, 0, none⟩) (n + 1) c) (es ++ [e])) x k)
    (hs : VarS sb w (.slice (some ⟨g, 0, none⟩) (n + 1) c)) (hB : B ≤ w.heap.size) (hl2 : n ≤ 100000000) (hfs : e.fs.length ≤ 100000000) :
    Calls Tryz.prog 70 #[.pointer (some ⟨sb, 0, none⟩), nval t x] w (AddPost B g c es e.t (if es.length + 1 < 32 then e.k ++ [.mk t k] else e.k) w) := by
  subst hn
  exact add_any h hr hs hB hl2 hfs
theorem Gw.free {B sb : Nat} {w W : World} {v : Value} {es : List Ent} {x : Value} {k : List Nd} (G : Gw sb w W) (hsb : sb < B) (h : RdN w (Free B v es) x k) : RdN W (Free B v es) x k :=
  h.move (fun b hf hl => G.block b hl fun e => by injection e with e; have := hf.1; omega) G.size
theorem StkM.gw {B sb : Nat} {w W : World} {v : Value} {es : List Ent} (h : StkM B w v es) (G : Gw sb w W) (hsb : sb < B) : StkM B W v es := h.keep G fun k hk => by injection hk with hk; omega
theorem addS_stk {es : List Ent} {e : Ent} {n : Nd} {u : Value} {fs : List Fl} : addS (stkOf (es ++ [e])) n = stkOf (es ++ [⟨e.t, if es.length + 1 < 32 then e.k ++ [n] else e.k, u, fs⟩]) := by
  rw [stkOf_snoc, stkOf_snoc]
  by_cases h : es.length + 1 < 32
  · rw [if_pos h, addS]
    simp only [stkOf_len, if_pos h]
  · rw [if_neg h, addS]
    simp only [stkOf_len, if_neg h]
theorem RowF.slen {B n c : Nat} {w : World} {a : Option Addr} {fs : List Fl} (h : RowF B w (.slice a n c) fs) : n = fs.length := by
  unfold RowF at h
  rcases h.2 with ⟨h1, h0⟩ | ⟨g, cap, cur, hv, _⟩
  · injection h1 with _ h2 _; omega
  · injection hv
theorem Gw.put0 {b : Nat} {a w : World} (h : Gw b a w) (t' : Tok) (u' : Value) : Gw b a (((((((w.setCell ⟨b, 0, none⟩ (.int .i64 t'.kind)).setCell ⟨b, 1, none⟩ (.string t'.text)).setCell ⟨b, 2, none⟩ (.int .i64 t'.int)).setCell ⟨b, 3, none⟩ (.bool t'.whole)).setCell ⟨b, 4, none⟩ (.bool t'.sign)).setCell ⟨b, 5, none⟩ (.bool t'.id)).setCell ⟨b, 6, none⟩ u') :=
  ((((((h.set (p := ⟨b, 0, none⟩) (.inl rfl) _).set (p := ⟨b, 1, none⟩) (.inl rfl) _).set (p := ⟨b, 2, none⟩) (.inl rfl) _).set (p := ⟨b, 3, none⟩) (.inl rfl) _).set (p := ⟨b, 4, none⟩) (.inl rfl) _).set (p := ⟨b, 5, none⟩) (.inl rfl) _).set (p := ⟨b, 6, none⟩) (.inl rfl) _
theorem rdT_at {w : World} {b : Nat} {ts : List Tok} (h : ∀ j u, (ts.flatMap tcells)[j]? = some u → w.cell? ⟨b, j, none⟩ = some u) {p : Nat} (hp : p < ts.length) : CellsAt w b p ts[p] := cellsAt_of h hp
/-- What One answers. -/
def OnePost (w : World) (ts : List Tok) (a : Nat) (e : Ending) (w' : World) : Prop :=
  (∃ u, e = .returned (.tuple #[nval (oneS [] (ts.drop a)).1.tok u, .int .i64 ((ts.length - (oneS [] (ts.drop a)).2.length : Nat) : Int)]) ∧ RdN w' (fun b => w.heap.size ≤ b) u (oneS [] (ts.drop a)).1.kids) ∧ Below w.heap.size w w'
set_option maxRecDepth 100000 in
set_option maxHeartbeats 1600000 in
theorem one_out_of (w : World) (ts : List Tok) (v : Value) (a : Int) (hv : RdT w v ts) (_hl : ts.length ≤ 10000000) (ha : a < 0 ∨ (ts.length : Int) ≤ a) :
    Calls Tryz.prog 49 #[v, .int .i64 a] w fun e w' => e = .returned (.tuple #[nval { kind := 0 } (.slice none 0 0), .int .i64 a]) ∧ Below w.heap.size w w' := by
  obtain ⟨p, c, rfl, hle, hcell⟩ := hv
  clear hcell
  have hb := (Below.refl w.heap.size w).alloc (Nat.le_refl _) (.cells #[.int .i64 0, .string ⟨#[]⟩, .int .i64 0, .bool false, .bool false, .bool false, .slice none 0 0] 49)
  by_cases h0 : a < 0
  · clear ha
    go_enter Tryz.func49, Tryz.ntmps49
    go_wp2
    refine bodyPost_ret (v := .tuple #[nval { kind := 0 } (.slice none 0 0), .int .i64 a]) ?_ rfl ⟨rfl, ?_⟩
    · simp [results, Tryz.results49, go_sem]
    · exact hb
  · have h1 : (ts.length : Int) ≤ a := by omega
    clear ha
    go_enter Tryz.func49, Tryz.ntmps49
    go_wp2
    refine bodyPost_ret (v := .tuple #[nval { kind := 0 } (.slice none 0 0), .int .i64 a]) ?_ rfl ⟨rfl, ?_⟩
    · simp [results, Tryz.results49, go_sem]
    · exact hb
/-- What holds while One reads: place p, blocks es open. -/
structure OneI (B sb : Nat) (w1 : World) (ts : List Tok) (a p : Nat) (wr : World) (sv : Value) (es : List Ent) : Prop where
  le : p ≤ ts.length
  ge : a ≤ p
  var : VarS sb wr sv
  st : StkM B wr sv es
  len : es.length ≤ p
  fs : ∀ e ∈ es, e.fs.length ≤ p
  run : oneS (stkOf es) (ts.drop p) = oneS [] (ts.drop a)
  bel : Below sb w1 wr
  ne : a < p → es ≠ []
theorem one_post {w W : World} {ts : List Tok} {a nx : Nat} {t : Tok} {k : List Nd} {u : Value} (hE : oneS [] (ts.drop a) = (.mk t k, ts.drop nx)) (hnx : nx ≤ ts.length) (hr : RdN W (fun b => w.heap.size ≤ b) u k) (hb : Below w.heap.size w W) :
    OnePost w ts a (.returned (.tuple #[nval t u, .int .i64 (nx : Int)])) W := by
  unfold OnePost
  rw [hE]
  have e : ts.length - (ts.drop nx).length = nx := by rw [List.length_drop]; omega
  refine ⟨⟨u, ?_, hr⟩, hb⟩
  show _ = Ending.returned (.tuple #[nval t u, .int .i64 ((ts.length - (ts.drop nx).length : Nat) : Int)])
  rw [e]
/-- The node is told: it is stored where results are. -/
theorem one_told {w w1 wr W : World} {B : Nat} {v : Value} {es : List Ent} {t : Tok} {u : Value} {k : List Nd} (h0 : Below w.heap.size w w1) (h1 : Below (w.heap.size + 1) w1 wr) (hg : Gw (w.heap.size + 1) wr W) (hwr : w.heap.size + 1 ≤ wr.heap.size) (hB : w.heap.size < B)
    (hr : RdN W (Free B v es) u k) : RdN (((((((W.setCell ⟨w.heap.size, 0, none⟩ (.int .i64 t.kind)).setCell ⟨w.heap.size, 1, none⟩ (.string t.text)).setCell ⟨w.heap.size, 2, none⟩ (.int .i64 t.int)).setCell ⟨w.heap.size, 3, none⟩ (.bool t.whole)).setCell ⟨w.heap.size, 4, none⟩ (.bool t.sign)).setCell ⟨w.heap.size, 5, none⟩ (.bool t.id)).setCell ⟨w.heap.size, 6, none⟩ u) (fun b => w.heap.size ≤ b) u k ∧ Below w.heap.size w (((((((W.setCell ⟨w.heap.size, 0, none⟩ (.int .i64 t.kind)).setCell ⟨w.heap.size, 1, none⟩ (.string t.text)).setCell ⟨w.heap.size, 2, none⟩ (.int .i64 t.int)).setCell ⟨w.heap.size, 3, none⟩ (.bool t.whole)).setCell ⟨w.heap.size, 4, none⟩ (.bool t.sign)).setCell ⟨w.heap.size, 5, none⟩ (.bool t.id)).setCell ⟨w.heap.size, 6, none⟩ u) := by
  have G := (Gw.refl w.heap.size W).put0 t u
  have hb0 : Below w.heap.size w W := (h0.trans (h1.mono (by omega))).trans (hg.below (by omega) (by omega))
  refine ⟨(G.free hB hr).weak fun b _ hf => by have := hf.1; omega, hb0.trans (G.below (Nat.le_refl _) hb0.size)⟩
/-- What holds while One closes what is open at the end. -/
structure ShutI (B sb : Nat) (w1 : World) (n : Nat) (r : Nd) (wr : World) (sv : Value) (es : List Ent) : Prop where
  var : VarS sb wr sv
  st : StkM B wr sv es
  len : es.length ≤ n
  fs : ∀ e ∈ es, e.fs.length + es.length ≤ 2 * n
  run : shutS (stkOf es) = r
  bel : Below sb w1 wr
  ne : es ≠ []
/-- How many are open, by what lies there. -/
def stkLen (sb : Nat) (w : World) : Nat := match w.cell? ⟨sb, 0, none⟩ with
  | some (.slice _ n _) => n
  | _ => 0
theorem stkLen_of {sb : Nat} {w : World} {a : Option Addr} {n c : Nat} (h : VarS sb w (.slice a n c)) : stkLen sb w = n := by unfold stkLen; rw [h.cell]
theorem shut_step {es : List Ent} {e2 e : Ent} {u : Value} {fs : List Fl} :
    shutS (stkOf (es ++ [e2] ++ [e])) = shutS (stkOf (es ++ [⟨e2.t, if es.length + 1 < 32 then e2.k ++ [.mk e.t e.k] else e2.k, u, fs⟩])) := by
  rw [← addS_stk (e := e2) (n := .mk e.t e.k), stkOf_snoc (es ++ [e2]), stkOf_snoc es]
  conv => lhs; unfold shutS
  unfold addS
  rfl
theorem VarS.frz {sb : Nat} {w : World} {v : Value} (h : VarS sb w v) : w.frozen? ⟨sb, 0, none⟩ = false := by unfold VarS at h; simp [World.frozen?, h]
/-- What the push of a new block leaves. -/
theorem push_fin {B sb gg cap n : Nat} {W w1 : World} {sv : Value} {es : List Ent} {t : Tok} {o : Obj}
    (HST : Hid (StkM B W sv es)) (HV : Hid (VarS sb W sv)) (hn : es.length = n) (hsb : sb < B) (hB : B ≤ W.heap.size)
    (HF : Hid (((es.map Ent.fl).flatMap ncells).length = n * 7))
    (HOWN : Hid (w1.ownsRow B 49 7 (.slice (some ⟨gg, 0, none⟩) (n + 1) cap) (n + 1) ((es.map Ent.fl).flatMap ncells ++ zerosN)))
    (HAT : Hid (sv.ownBlock = some gg ∨ gg = W.heap.size + 1)) (HGR : Hid ((W.alloc o).drew.grownBy w1 sv.ownBlock)) :
    StkM B ((((((((w1.setCell ⟨gg, n * 7, none⟩ (.int .i64 t.kind)).setCell ⟨gg, n * 7 + 1, none⟩ (.string t.text)).setCell ⟨gg, n * 7 + 2, none⟩ (.int .i64 t.int)).setCell ⟨gg, n * 7 + 3, none⟩ (.bool t.whole)).setCell ⟨gg, n * 7 + 4, none⟩ (.bool t.sign)).setCell ⟨gg, n * 7 + 5, none⟩ (.bool t.id)).setCell ⟨gg, n * 7 + 6, none⟩ (.slice none 0 0)).setCell ⟨sb, 0, none⟩ (.slice (some ⟨gg, 0, none⟩) (n + 1) cap)) (.slice (some ⟨gg, 0, none⟩) (n + 1) cap) (es ++ [⟨t, [], .slice none 0 0, []⟩]) ∧ VarS sb ((((((((w1.setCell ⟨gg, n * 7, none⟩ (.int .i64 t.kind)).setCell ⟨gg, n * 7 + 1, none⟩ (.string t.text)).setCell ⟨gg, n * 7 + 2, none⟩ (.int .i64 t.int)).setCell ⟨gg, n * 7 + 3, none⟩ (.bool t.whole)).setCell ⟨gg, n * 7 + 4, none⟩ (.bool t.sign)).setCell ⟨gg, n * 7 + 5, none⟩ (.bool t.id)).setCell ⟨gg, n * 7 + 6, none⟩ (.slice none 0 0)).setCell ⟨sb, 0, none⟩ (.slice (some ⟨gg, 0, none⟩) (n + 1) cap)) (.slice (some ⟨gg, 0, none⟩) (n + 1) cap) ∧ Below sb W ((((((((w1.setCell ⟨gg, n * 7, none⟩ (.int .i64 t.kind)).setCell ⟨gg, n * 7 + 1, none⟩ (.string t.text)).setCell ⟨gg, n * 7 + 2, none⟩ (.int .i64 t.int)).setCell ⟨gg, n * 7 + 3, none⟩ (.bool t.whole)).setCell ⟨gg, n * 7 + 4, none⟩ (.bool t.sign)).setCell ⟨gg, n * 7 + 5, none⟩ (.bool t.id)).setCell ⟨gg, n * 7 + 6, none⟩ (.slice none 0 0)).setCell ⟨sb, 0, none⟩ (.slice (some ⟨gg, 0, none⟩) (n + 1) cap)) := by
  have hst := HST.out
  have hbl := hst.row.block
  have hsl : sb < W.heap.size := by omega
  have hR := row_store HF.out HOWN.out (.int .i64 t.kind) (.string t.text) (.int .i64 t.int) (.bool t.whole) (.bool t.sign) (.bool t.id) (.slice none 0 0)
  have hG0 : W.grownBy w1 sv.ownBlock := gb_trans (gb_below (below_seq (Below.refl W.heap.size W) (((Below.refl W.heap.size W).alloc (Nat.le_refl _) o).drew)) _) HGR.out
  have hgg : some gg = sv.ownBlock ∨ W.heap.size ≤ gg := by
    rcases HAT.out with h | h
    · exact .inl h.symm
    · exact .inr (by omega)
  have hgB : B ≤ gg := by
    rcases hgg with h | h
    · exact (hbl gg h.symm).1
    · omega
  have hG : W.grownBy (((((((w1.setCell ⟨gg, n * 7, none⟩ (.int .i64 t.kind)).setCell ⟨gg, n * 7 + 1, none⟩ (.string t.text)).setCell ⟨gg, n * 7 + 2, none⟩ (.int .i64 t.int)).setCell ⟨gg, n * 7 + 3, none⟩ (.bool t.whole)).setCell ⟨gg, n * 7 + 4, none⟩ (.bool t.sign)).setCell ⟨gg, n * 7 + 5, none⟩ (.bool t.id)).setCell ⟨gg, n * 7 + 6, none⟩ (.slice none 0 0)) sv.ownBlock :=
    gb_set (gb_set (gb_set (gb_set (gb_set (gb_set (gb_set hG0 hgg _) hgg _) hgg _) hgg _) hgg _) hgg _) hgg _
  have hP := hst.push (t := t) (v' := .slice (some ⟨gg, 0, none⟩) (n + 1) cap) (by
    unfold RowF
    rw [List.length_append, List.flatMap_append, List.length_map, hn]
    simpa [ncells, tcells] using hR) hG (by
    rcases HAT.out with h | h
    · exact .inl h.symm
    · exact .inr ⟨gg, rfl, by omega⟩)
  have hne : gg ≠ sb := by omega
  have hV0 : VarS sb (((((((w1.setCell ⟨gg, n * 7, none⟩ (.int .i64 t.kind)).setCell ⟨gg, n * 7 + 1, none⟩ (.string t.text)).setCell ⟨gg, n * 7 + 2, none⟩ (.int .i64 t.int)).setCell ⟨gg, n * 7 + 3, none⟩ (.bool t.whole)).setCell ⟨gg, n * 7 + 4, none⟩ (.bool t.sign)).setCell ⟨gg, n * 7 + 5, none⟩ (.bool t.id)).setCell ⟨gg, n * 7 + 6, none⟩ (.slice none 0 0)) sv := HV.out.far hG (fun e => by have := (hbl sb e).1; omega)
  have hb0 : Below sb W (((((((w1.setCell ⟨gg, n * 7, none⟩ (.int .i64 t.kind)).setCell ⟨gg, n * 7 + 1, none⟩ (.string t.text)).setCell ⟨gg, n * 7 + 2, none⟩ (.int .i64 t.int)).setCell ⟨gg, n * 7 + 3, none⟩ (.bool t.whole)).setCell ⟨gg, n * 7 + 4, none⟩ (.bool t.sign)).setCell ⟨gg, n * 7 + 5, none⟩ (.bool t.id)).setCell ⟨gg, n * 7 + 6, none⟩ (.slice none 0 0)) := ⟨hG.os, hG.tape, hG.output, hG.size, fun i hi => hG.block i (by omega) fun e => by have := (hbl i e.symm).1; omega⟩
  have G := (Gw.refl sb (((((((w1.setCell ⟨gg, n * 7, none⟩ (.int .i64 t.kind)).setCell ⟨gg, n * 7 + 1, none⟩ (.string t.text)).setCell ⟨gg, n * 7 + 2, none⟩ (.int .i64 t.int)).setCell ⟨gg, n * 7 + 3, none⟩ (.bool t.whole)).setCell ⟨gg, n * 7 + 4, none⟩ (.bool t.sign)).setCell ⟨gg, n * 7 + 5, none⟩ (.bool t.id)).setCell ⟨gg, n * 7 + 6, none⟩ (.slice none 0 0))).set (p := ⟨sb, 0, none⟩) (.inl rfl) (.slice (some ⟨gg, 0, none⟩) (n + 1) cap)
  refine ⟨hP.gw G hsb, ?_, hb0.trans (G.below (Nat.le_refl _) (by have := hG.size; omega))⟩
  unfold VarS at hV0 ⊢
  have := heap_setCell_same _ sb 0 _ _ (.slice (some ⟨gg, 0, none⟩) (n + 1) cap) hV0
  rw [this]
  rfl
-- the walk (genone.py)
set_option maxRecDepth 100000 in
set_option maxHeartbeats 6400000 in
theorem one_in (w : World) (ts : List Tok) (v : Value) (a : Nat) (hv : RdT w v ts) (hl : ts.length ≤ 10000000) (ha : a < ts.length) :
    Calls Tryz.prog 49 #[v, .int .i64 a] w (OnePost w ts a) := by
  obtain ⟨pa, c, rfl, hle, hcell⟩ := hv
  obtain ⟨b, rfl, hb, hc⟩ := hcell (by omega)
  clear hcell
  have HC := Lib.hid hc
  clear hc
  have h1 : ¬ (a : Int) < 0 := by omega
  have h2 : ¬ (ts.length : Int) ≤ (a : Int) := by omega
  go_enter Tryz.func49, Tryz.ntmps49
  go_wp2
  have hB0 := (Below.refl w.heap.size w).alloc (Nat.le_refl _) (.cells #[.int .i64 0, .string ⟨#[]⟩, .int .i64 0, .bool false, .bool false, .bool false, .slice none 0 0] 49)
  have hR := heap_alloc_self w (.cells #[.int .i64 0, .string ⟨#[]⟩, .int .i64 0, .bool false, .bool false, .bool false, .slice none 0 0] 49)
  have hs1 : (w.alloc (.cells #[.int .i64 0, .string ⟨#[]⟩, .int .i64 0, .bool false, .bool false, .bool false, .slice none 0 0] 49)).heap.size = w.heap.size + 1 := by simp
  generalize w.alloc (.cells #[.int .i64 0, .string ⟨#[]⟩, .int .i64 0, .bool false, .bool false, .bool false, .slice none 0 0] 49) = w1 at *
  have hV := heap_alloc_self w1 (.cells #[.slice none 0 0] 93)
  rw [hs1] at hV
  have hB1 := (Below.refl w1.heap.size w1).alloc (Nat.le_refl _) (.cells #[.slice none 0 0] 93)
  rw [hs1] at hB1
  go_loopw [7] (fun pv wr => ∃ (p : Nat) (sv : Value) (es : List Ent), pv = .int .i64 p ∧ OneI (w.heap.size + 2) (w.heap.size + 1) w1 ts a p wr sv es) (fun pv _ => ts.length - (intOf pv).toNat)
  case atStart => exact ⟨a, .slice none 0 0, [], rfl, Nat.le_of_lt ha, Nat.le_refl _, hV, StkM.nil _ _, Nat.zero_le _, by intro e he; simp at he, rfl, hB1, fun h => absurd h (Nat.lt_irrefl _)⟩
  case round =>
    obtain ⟨p, sv, es, rfl, hI⟩ := hrel
    have HB0 := Lib.hid hB0
    have HR := Lib.hid hR
    clear hV hB1 hB0 hR
    by_cases hlt : p < ts.length
    · have hbw : Below (w.heap.size) w wr := HB0.out.trans (hI.bel.mono (by omega))
      obtain ⟨p0, p1, p2, p3, p4, p5⟩ := cellsAt_of (w := wr) (fun j u hu => (hbw.cell (p := ⟨b, j, none⟩) hb).trans (HC.out j u hu)) hlt
      have hdr : ts.drop p = ts[p] :: ts.drop (p + 1) := List.drop_eq_getElem_cons hlt
      have hi1 : (0 : Int) ≤ (p : Int) := by omega
      generalize ts[p] = t at *
      have HI := Lib.hid hI
      have HD := Lib.hid hdr
      clear hI hdr hbw
      by_cases hcl : clsT es t = true
      · rcases List.eq_nil_or_concat es with rfl | ⟨es', e, rfl⟩
        · exact absurd hcl (by simp [clsT])
        rw [List.concat_eq_append] at *
        rcases HI.out.st.shape with ⟨_, hnil⟩ | ⟨g, c', rfl, hc', _, hgl⟩
        · simp at hnil
        obtain ⟨ua, un, uc, hu⟩ := (HI.out.st.kids e (by simp)).1.sl
        obtain ⟨et, ek, eu, ef⟩ := e
        simp only at hu
        subst hu
        rcases List.eq_nil_or_concat es' with rfl | ⟨es2, e2, rfl⟩
        · rw [List.nil_append, show ([⟨et, ek, .slice ua un uc, ef⟩] : List Ent).length = 1 from rfl] at *
          have hvar := HI.out.var
          have hst := HI.out.st
          have hlp := HI.out.len
          have hwrs : w.heap.size + 2 ≤ wr.heap.size := by have := HI.out.bel.size; have := (Array.getElem?_eq_some_iff.1 hvar).1; omega
          have hN1 := NB.new wr t (.slice none 0 0)
          have hG1 : Gw (w.heap.size + 1) wr (wr.alloc (.cells #[.int .i64 t.kind, .string t.text, .int .i64 t.int, .bool t.whole, .bool t.sign, .bool t.id, .slice none 0 0] 49)) := (Gw.refl _ _).alloc _
          have hv1 := hvar.below ((Below.refl wr.heap.size wr).alloc (Nat.le_refl _) (.cells #[.int .i64 t.kind, .string t.text, .int .i64 t.int, .bool t.whole, .bool t.sign, .bool t.id, .slice none 0 0] 49)) (by omega)
          have hvs1 := VarS.cell hv1
          have hst1 := hst.gw hG1 (by omega)
          have hne1 : wr.heap.size ≠ w.heap.size + 1 := by omega
          have hne2 : w.heap.size + 1 ≠ wr.heap.size := by omega
          have hlen1 : ([(⟨et, ek, .slice ua un uc, ef⟩ : Ent)] : List Ent).length ≤ 100000000 := by simp
          have hP := StkM.pop (es := []) hst
          go_upto_region 12 with (first | (go_at_call 67; refine (closes_is hst1 t hcl hlen1).mono ?_; rintro e w2 ⟨rfl, hb2⟩; have hG2 := hG1.trans (Gw.of_below hb2); have hv2 := hv1.below hb2 (by simp; omega); have hN2 := hN1.below hb2 (by simp); have hvs2 := VarS.cell hv2; skip) | (go_at_call 68; refine (pop_n (B := w.heap.size + 2) (es := []) (e := (⟨et, ek, .slice ua un uc, ef⟩ : Ent)) (n := 0) rfl (hst.gw hG2 (by omega)) hv2 (by omega) (by omega)).mono ?_; rintro e w3 ⟨rfl, hg3, hv3⟩; have hG3 := hG2.trans hg3; have hN3 := hN2.far hg3 (by simp; omega); have hvs3 := VarS.cell hv3; obtain ⟨n0, n1, n2, n3, n4, n5, n6⟩ := hN3.at; have nf := hN3.frz; have nf0 := nf 0; have nf1 := nf 1; have nf2 := nf 2; have nf3 := nf 3; have nf4 := nf 4; have nf5 := nf 5; have nf6 := nf 6; clear nf; have hs3 := hg3.size))
          have hN4 := hN3.put et (.slice ua un uc)
          have hG4 := hG3.put (Nat.le_refl _) et (.slice ua un uc)
          have hv4 := hv3.put hne2 et (.slice ua un uc)
          clear n0 n1 n2 n3 n4 n5 n6 nf0 nf1 nf2 nf3 nf4 nf5 nf6 hN1 hN2 hN3 hG1 hv1 hst1 p0 p1 p2 p3 p4 p5
          generalize (((((((w3.setCell ⟨wr.heap.size, 0, none⟩ (.int .i64 et.kind)).setCell ⟨wr.heap.size, 1, none⟩ (.string et.text)).setCell ⟨wr.heap.size, 2, none⟩ (.int .i64 et.int)).setCell ⟨wr.heap.size, 3, none⟩ (.bool et.whole)).setCell ⟨wr.heap.size, 4, none⟩ (.bool et.sign)).setCell ⟨wr.heap.size, 5, none⟩ (.bool et.id)).setCell ⟨wr.heap.size, 6, none⟩ (.slice ua un uc)) = W4 at *
          have hvs4 := VarS.cell hv4
          obtain ⟨m0, m1, m2, m3, m4, m5, m6⟩ := hN4.at
          have HN4 := Lib.hid hN4
          have HG4 := Lib.hid hG4
          have HV4 := Lib.hid hv4
          have HP := Lib.hid hP
          clear hN4 hG4 hv4 hP hG2 hG3 hv2 hv3 hst hvs1 hvs2 hvs3 hne1 hne2 hvar hg3 hb2
          have hR4 : NB W4 w.heap.size { kind := 0 } (.slice none 0 0) := ((show NB w1 w.heap.size { kind := 0 } (.slice none 0 0) from HR.out).below HI.out.bel (by omega)).far HG4.out (by simp)
          obtain ⟨q0, q1, q2, q3, q4, q5, q6⟩ := hR4.at
          have qf := hR4.frz
          have qf0 := qf 0; have qf1 := qf 1; have qf2 := qf 2; have qf3 := qf 3; have qf4 := qf 4; have qf5 := qf 5; have qf6 := qf 6
          clear hR4 qf
          have hw : IntKind.i64.wrap ((p : Int) + 1) = ((p + 1 : Nat) : Int) := by rw [IntKind.wrap_i64]; omega
          go_wp2
          refine bodyPost_ret (v := .tuple #[nval et (.slice ua un uc), .int .i64 ((p + 1 : Nat) : Int)]) ?_ rfl (one_post (k := ek) (nx := p + 1) ?_ (by omega) ?_ ?_)
          · simp [results, Tryz.results49, go_sem, q0, q1, q2, q3, q4, q5, q6]
          · rw [← HI.out.run, HD.out, show stkOf [(⟨et, ek, .slice ua un uc, ef⟩ : Ent)] = [(et, ek)] from rfl, oneS_shuts (by have := cls_stk [(⟨et, ek, .slice ua un uc, ef⟩ : Ent)] t; rw [hcl] at this; exact this), if_pos (by rfl)]
          all_goals have hT := one_told (t := et) HB0.out HI.out.bel HG4.out (by omega) (by omega) (HG4.out.free (by omega) HP.out.2)
          · exact hT.1
          · exact hT.2
        · rw [List.concat_eq_append] at *
          have hlp := HI.out.len
          have hlen1 : (es2 ++ [e2] ++ [(⟨et, ek, .slice ua un uc, ef⟩ : Ent)]).length ≤ 100000000 := by omega
          obtain ⟨n, hn⟩ : ∃ n, es2.length = n := ⟨_, rfl⟩
          rw [show (es2 ++ [e2] ++ [(⟨et, ek, .slice ua un uc, ef⟩ : Ent)]).length = n + 2 by simp [hn]] at HI hc' hlp
          have hl1 : (es2 ++ [e2]).length = n + 1 := by simp [hn]
          have hvar := HI.out.var
          have hst := HI.out.st
          have hwrs : w.heap.size + 2 ≤ wr.heap.size := by have := HI.out.bel.size; have := (Array.getElem?_eq_some_iff.1 hvar).1; omega
          have hN1 := NB.new wr t (.slice none 0 0)
          have hG1 : Gw (w.heap.size + 1) wr (wr.alloc (.cells #[.int .i64 t.kind, .string t.text, .int .i64 t.int, .bool t.whole, .bool t.sign, .bool t.id, .slice none 0 0] 49)) := (Gw.refl _ _).alloc _
          have hv1 := hvar.below ((Below.refl wr.heap.size wr).alloc (Nat.le_refl _) (.cells #[.int .i64 t.kind, .string t.text, .int .i64 t.int, .bool t.whole, .bool t.sign, .bool t.id, .slice none 0 0] 49)) (by omega)
          have hvs1 := VarS.cell hv1
          have hst1 := hst.gw hG1 (by omega)
          have hne1 : wr.heap.size ≠ w.heap.size + 1 := by omega
          have hne2 : w.heap.size + 1 ≠ wr.heap.size := by omega
          have hP := StkM.pop hst
          rw [hl1] at hP
          go_upto_region 12 with (first | (go_at_call 67; refine (closes_is hst1 t hcl hlen1).mono ?_; rintro e w2 ⟨rfl, hb2⟩; have hG2 := hG1.trans (Gw.of_below hb2); have hv2 := hv1.below hb2 (by simp; omega); have hN2 := hN1.below hb2 (by simp); have hvs2 := VarS.cell hv2; skip) | (go_at_call 68; refine (pop_n (B := w.heap.size + 2) (es := es2 ++ [e2]) (e := (⟨et, ek, .slice ua un uc, ef⟩ : Ent)) (n := n + 1) hl1 (hst.gw hG2 (by omega)) hv2 (by omega) (by omega)).mono ?_; rintro e w3 ⟨rfl, hg3, hv3⟩; have hG3 := hG2.trans hg3; have hN3 := hN2.far hg3 (by simp; omega); have hvs3 := VarS.cell hv3; obtain ⟨n0, n1, n2, n3, n4, n5, n6⟩ := hN3.at; have nf := hN3.frz; have nf0 := nf 0; have nf1 := nf 1; have nf2 := nf 2; have nf3 := nf 3; have nf4 := nf 4; have nf5 := nf 5; have nf6 := nf 6; clear nf; have hs3 := hg3.size))
          have hN4 := hN3.put et (.slice ua un uc)
          have hG4 := hG3.put (Nat.le_refl _) et (.slice ua un uc)
          have hv4 := hv3.put hne2 et (.slice ua un uc)
          clear n0 n1 n2 n3 n4 n5 n6 nf0 nf1 nf2 nf3 nf4 nf5 nf6 hN1 hN2 hN3 hG1 hv1 hst1 p0 p1 p2 p3 p4 p5
          generalize (((((((w3.setCell ⟨wr.heap.size, 0, none⟩ (.int .i64 et.kind)).setCell ⟨wr.heap.size, 1, none⟩ (.string et.text)).setCell ⟨wr.heap.size, 2, none⟩ (.int .i64 et.int)).setCell ⟨wr.heap.size, 3, none⟩ (.bool et.whole)).setCell ⟨wr.heap.size, 4, none⟩ (.bool et.sign)).setCell ⟨wr.heap.size, 5, none⟩ (.bool et.id)).setCell ⟨wr.heap.size, 6, none⟩ (.slice ua un uc)) = W4 at *
          have hvs4 := VarS.cell hv4
          obtain ⟨m0, m1, m2, m3, m4, m5, m6⟩ := hN4.at
          have HN4 := Lib.hid hN4
          have HG4 := Lib.hid hG4
          have HV4 := Lib.hid hv4
          have HS4 := Lib.hid (hP.1.gw hG4 (by omega))
          have HX4 := Lib.hid (hG4.free (by omega) hP.2)
          have hfs := HI.out.fs e2 (by simp)
          have HL4 := Lib.hid (show e2.k.length ≤ p by have := (hst.kids e2 (by simp)).2.len; omega)
          have hm0 : ¬ (n : Int) + 1 = 0 := by omega
          clear hN4 hG4 hv4 hP hG2 hG3 hv2 hv3 hst hvs1 hvs2 hvs3 hne1 hne2 hvar hg3 hb2
          go_wp2_with (first | (go_at_call 70; refine (add_n (B := w.heap.size + 2) (sb := w.heap.size + 1) (es := es2) (e := e2) (n := n) hn HS4.out HX4.out HV4.out (by have := HG4.out.size; omega) (by omega) (by have := hfs; omega)).mono ?_; rintro e w5 ⟨rfl, ⟨u5', f5, hst5, hf5⟩, hb5⟩))
          go_roundw
          case rel =>
            refine ⟨p + 1, _, _, by go_num, by omega, by have := HI.out.ge; omega, (by rw [← hn] at HV4; exact HV4.out.below hb5 (by omega)), hst5, by rw [List.length_append]; simp; omega, ?_, ?_, ?_, by intro _ h; simp at h⟩
            · intro x hx
              rw [List.mem_append] at hx
              rcases hx with hx | hx
              · have := HI.out.fs x (by simp [hx]); omega
              · simp at hx; subst hx; simp only; have := HL4.out; rw [hf5]; split <;> simp <;> omega
            · rw [← addS_stk, ← HI.out.run, HD.out, stkOf_snoc (es2 ++ [e2]), oneS_shuts (by have := cls_stk (es2 ++ [e2] ++ [(⟨et, ek, .slice ua un uc, ef⟩ : Ent)]) t; rw [hcl, stkOf_snoc] at this; exact this), if_neg (by rw [stkOf_snoc]; simp)]
            · exact (HI.out.bel.trans (HG4.out.below (Nat.le_refl _) (by omega))).trans (hb5.mono (by omega))
          case measure => simp [intOf]; omega
      · have hcl : clsT es t = false := by simpa using hcl
        by_cases hclo : cloB t = ⟨#[]⟩
        · rcases List.eq_nil_or_concat es with rfl | ⟨es2, e2, rfl⟩
          · obtain ⟨sa, sc, rfl⟩ := HI.out.st.sl0
            have hvar := HI.out.var
            have hst := HI.out.st
            have hlp := HI.out.len
            have hwrs : w.heap.size + 2 ≤ wr.heap.size := by have := HI.out.bel.size; have := (Array.getElem?_eq_some_iff.1 hvar).1; omega
            have hN1 := NB.new wr t (.slice none 0 0)
            have hG1 : Gw (w.heap.size + 1) wr (wr.alloc (.cells #[.int .i64 t.kind, .string t.text, .int .i64 t.int, .bool t.whole, .bool t.sign, .bool t.id, .slice none 0 0] 49)) := (Gw.refl _ _).alloc _
            have hv1 := hvar.below ((Below.refl wr.heap.size wr).alloc (Nat.le_refl _) (.cells #[.int .i64 t.kind, .string t.text, .int .i64 t.int, .bool t.whole, .bool t.sign, .bool t.id, .slice none 0 0] 49)) (by omega)
            have hvs1 := VarS.cell hv1
            have hst1 := hst.gw hG1 (by omega)
            have hne1 : wr.heap.size ≠ w.heap.size + 1 := by omega
            have hne2 : w.heap.size + 1 ≠ wr.heap.size := by omega
            have hlen1 : ([] : List Ent).length ≤ 100000000 := by simp
            go_upto_region 12 with (first | (go_at_call 67; refine (closes_is hst1 t hcl hlen1).mono ?_; rintro e w2 ⟨rfl, hb2⟩; have hG2 := hG1.trans (Gw.of_below hb2); have hv2 := hv1.below hb2 (by simp; omega); have hN2 := hN1.below hb2 (by simp); have hvs2 := VarS.cell hv2; obtain ⟨n0, n1, n2, n3, n4, n5, n6⟩ := hN2.at) | (go_at_call 69; refine (closer_is hclo _).mono ?_; rintro e w3 ⟨rfl, hb3⟩; have hG4 := hG2.trans (Gw.of_below hb3); have hv4 := hv2.below hb3 (by have := hG2.size; omega); have hN4 := hN2.below hb3 hN2.lt))
            have hvs4 := VarS.cell hv4
            obtain ⟨m0, m1, m2, m3, m4, m5, m6⟩ := hN4.at
            have HN4 := Lib.hid hN4
            have HG4 := Lib.hid hG4
            have HV4 := Lib.hid hv4
            clear hN4 hG4 hv4 hG2 hv2 hst hvs1 hvs2 hne1 hne2 hvar hb2 hb3 n0 n1 n2 n3 n4 n5 n6 hN1 hN2 hG1 hv1 hst1 p0 p1 p2 p3 p4 p5
            generalize w3 = W4 at *
            have hR4 : NB W4 w.heap.size { kind := 0 } (.slice none 0 0) := ((show NB w1 w.heap.size { kind := 0 } (.slice none 0 0) from HR.out).below HI.out.bel (by omega)).far HG4.out (by simp)
            obtain ⟨q0, q1, q2, q3, q4, q5, q6⟩ := hR4.at
            have qf := hR4.frz
            have qf0 := qf 0; have qf1 := qf 1; have qf2 := qf 2; have qf3 := qf 3; have qf4 := qf 4; have qf5 := qf 5; have qf6 := qf 6
            clear hR4 qf
            have hw : IntKind.i64.wrap ((p : Int) + 1) = ((p + 1 : Nat) : Int) := by rw [IntKind.wrap_i64]; omega
            go_wp2
            refine bodyPost_ret (v := .tuple #[nval t (.slice none 0 0), .int .i64 ((p + 1 : Nat) : Int)]) ?_ rfl (one_post (k := []) (nx := p + 1) ?_ (by omega) ?_ ?_)
            · simp [results, Tryz.results49, go_sem, q0, q1, q2, q3, q4, q5, q6]
            · rw [← HI.out.run, HD.out, oneS_leaf (by have := cls_stk [] t; rw [hcl] at this; exact this) (by rw [hclo]; decide +kernel), if_pos (by rfl)]
            all_goals have hT := one_told (t := t) HB0.out HI.out.bel HG4.out (by omega) (by omega) (RdN.nil none 0 : RdN W4 (Free (w.heap.size + 2) (.slice none 0 0) []) (.slice none 0 0) [])
            · exact hT.1
            · exact hT.2
          · rw [List.concat_eq_append] at *
            rcases HI.out.st.shape with ⟨_, hnil⟩ | ⟨g, c', rfl, hc', _, hgl⟩
            · simp at hnil
            have hlp := HI.out.len
            have hlen1 : (es2 ++ [e2]).length ≤ 100000000 := by omega
            obtain ⟨n, hn⟩ : ∃ n, es2.length = n := ⟨_, rfl⟩
            rw [show (es2 ++ [e2]).length = n + 1 by simp [hn]] at HI hc' hlp
            have hvar := HI.out.var
            have hst := HI.out.st
            have hwrs : w.heap.size + 2 ≤ wr.heap.size := by have := HI.out.bel.size; have := (Array.getElem?_eq_some_iff.1 hvar).1; omega
            have hN1 := NB.new wr t (.slice none 0 0)
            have hG1 : Gw (w.heap.size + 1) wr (wr.alloc (.cells #[.int .i64 t.kind, .string t.text, .int .i64 t.int, .bool t.whole, .bool t.sign, .bool t.id, .slice none 0 0] 49)) := (Gw.refl _ _).alloc _
            have hv1 := hvar.below ((Below.refl wr.heap.size wr).alloc (Nat.le_refl _) (.cells #[.int .i64 t.kind, .string t.text, .int .i64 t.int, .bool t.whole, .bool t.sign, .bool t.id, .slice none 0 0] 49)) (by omega)
            have hvs1 := VarS.cell hv1
            have hst1 := hst.gw hG1 (by omega)
            have hne1 : wr.heap.size ≠ w.heap.size + 1 := by omega
            have hne2 : w.heap.size + 1 ≠ wr.heap.size := by omega
            go_upto_region 12 with (first | (go_at_call 67; refine (closes_is hst1 t hcl hlen1).mono ?_; rintro e w2 ⟨rfl, hb2⟩; have hG2 := hG1.trans (Gw.of_below hb2); have hv2 := hv1.below hb2 (by simp; omega); have hN2 := hN1.below hb2 (by simp); have hvs2 := VarS.cell hv2; obtain ⟨n0, n1, n2, n3, n4, n5, n6⟩ := hN2.at) | (go_at_call 69; refine (closer_is hclo _).mono ?_; rintro e w3 ⟨rfl, hb3⟩; have hG4 := hG2.trans (Gw.of_below hb3); have hv4 := hv2.below hb3 (by have := hG2.size; omega); have hN4 := hN2.below hb3 hN2.lt))
            have hvs4 := VarS.cell hv4
            obtain ⟨m0, m1, m2, m3, m4, m5, m6⟩ := hN4.at
            have HN4 := Lib.hid hN4
            have HG4 := Lib.hid hG4
            have HV4 := Lib.hid hv4
            have HS4 := Lib.hid (hst.gw hG4 (by omega))
            have hfs := HI.out.fs e2 (by simp)
            have HL4 := Lib.hid (show e2.k.length ≤ p by have := (hst.kids e2 (by simp)).2.len; omega)
            have hm0 : ¬ (n : Int) + 1 = 0 := by omega
            clear hN4 hG4 hv4 hG2 hv2 hst hvs1 hvs2 hne1 hne2 hvar hb2 hb3 n0 n1 n2 n3 n4 n5 n6 hN1 hN2 hG1 hv1 hst1 p0 p1 p2 p3 p4 p5
            generalize w3 = W4 at *
            have HX4 := Lib.hid (RdN.nil none 0 : RdN W4 (Free (w.heap.size + 2) (.slice (some ⟨g, 0, none⟩) (n + 1) c') (es2 ++ [e2])) (.slice none 0 0) [])
            go_wp2_with (first | (go_at_call 70; refine (add_n (B := w.heap.size + 2) (sb := w.heap.size + 1) (es := es2) (e := e2) (n := n) hn HS4.out HX4.out HV4.out (by have := HG4.out.size; omega) (by omega) (by have := hfs; omega)).mono ?_; rintro e w5 ⟨rfl, ⟨u5', f5, hst5, hf5⟩, hb5⟩))
            go_roundw
            case rel =>
              refine ⟨p + 1, _, _, by go_num, by omega, by have := HI.out.ge; omega, (by rw [← hn] at HV4; exact HV4.out.below hb5 (by omega)), hst5, by rw [List.length_append]; simp; omega, ?_, ?_, ?_, by intro _ h; simp at h⟩
              · intro x hx
                rw [List.mem_append] at hx
                rcases hx with hx | hx
                · have := HI.out.fs x (by simp [hx]); omega
                · simp at hx; subst hx; simp only; have := HL4.out; rw [hf5]; split <;> simp <;> omega
              · rw [← addS_stk, ← HI.out.run, HD.out, oneS_leaf (by have := cls_stk (es2 ++ [e2]) t; rw [hcl] at this; exact this) (by rw [hclo]; decide +kernel), if_neg (by rw [stkOf_snoc]; simp)]
              · exact (HI.out.bel.trans (HG4.out.below (Nat.le_refl _) (by omega))).trans (hb5.mono (by omega))
            case measure => simp [intOf]; omega
        · skip
          have hvar := HI.out.var
          have hst := HI.out.st
          have hlp := HI.out.len
          have hwrs : w.heap.size + 2 ≤ wr.heap.size := by have := HI.out.bel.size; have := (Array.getElem?_eq_some_iff.1 hvar).1; omega
          have hN1 := NB.new wr t (.slice none 0 0)
          have hG1 : Gw (w.heap.size + 1) wr (wr.alloc (.cells #[.int .i64 t.kind, .string t.text, .int .i64 t.int, .bool t.whole, .bool t.sign, .bool t.id, .slice none 0 0] 49)) := (Gw.refl _ _).alloc _
          have hv1 := hvar.below ((Below.refl wr.heap.size wr).alloc (Nat.le_refl _) (.cells #[.int .i64 t.kind, .string t.text, .int .i64 t.int, .bool t.whole, .bool t.sign, .bool t.id, .slice none 0 0] 49)) (by omega)
          have hvs1 := VarS.cell hv1
          have hst1 := hst.gw hG1 (by omega)
          have hne1 : wr.heap.size ≠ w.heap.size + 1 := by omega
          have hne2 : w.heap.size + 1 ≠ wr.heap.size := by omega
          obtain ⟨i0, hi, hz0, hz1, hz2⟩ := info_parts info_node
          have hlen1 : es.length ≤ 100000000 := by have := HI.out.len; omega
          obtain ⟨sa, n, sc, hsv⟩ := hst.row.sl
          subst hsv
          have hn : es.length = n := by have := RowF.slen hst.row; simpa using this.symm
          have hq : ((cloB t).toList == []) = false := by
            cases hx : (cloB t).toList with
            | nil =>
              rw [ByteArray.toList_eq] at hx
              exact absurd (show cloB t = ⟨#[]⟩ by cases hb : cloB t with | mk d => rw [hb] at hx; simp at hx; rw [hx]) hclo
            | cons => rfl
          have hclo2 : (cloB t).toList.isEmpty = false := by simpa using hq
          go_upto_region 11 with (first | (go_at_call 67; refine (closes_is hst1 t hcl hlen1).mono ?_; rintro e w2 ⟨rfl, hb2⟩; have hG2 := hG1.trans (Gw.of_below hb2); have hv2 := hv1.below hb2 (by simp; omega); have hN2 := hN1.below hb2 (by simp); have hvs2 := VarS.cell hv2; obtain ⟨n0, n1, n2, n3, n4, n5, n6⟩ := hN2.at) | (go_at_call 69; refine (closer_is rfl _).mono ?_; rintro e w3 ⟨rfl, hb3⟩; have hG4 := hG2.trans (Gw.of_below hb3); have hv4 := hv2.below hb3 (by have := hG2.size; omega); have hN4 := hN2.below hb3 hN2.lt))
          have hvs4 := VarS.cell hv4
          have hvf4 := VarS.frz hv4
          have hst4 := hst.gw hG4 (by omega)
          have hszW : wr.heap.size < w3.heap.size := hN4.lt
          obtain ⟨m0, m1, m2, m3, m4, m5, m6⟩ := hN4.at
          have HG4 := Lib.hid hG4
          have HV4 := Lib.hid hv4
          have HST4 := Lib.hid hst4
          have hown := hst4.row
          unfold RowF at hown
          rw [List.length_map, hn] at hown
          have HF := Lib.hid (show ((es.map Ent.fl).flatMap ncells).length = n * 7 by rw [ncellsL_len, List.length_map, hn])
          have hbl := hst.row.block
          have hnsb : (Value.slice sa n sc).ownBlock ≠ some (w.heap.size + 1) := fun e => by have := (hbl _ e).1; omega
          have hnnb : (Value.slice sa n sc).ownBlock ≠ some wr.heap.size := fun e => by have := (hbl _ e).2; omega
          have hlpn : n ≤ p := by omega
          clear hN4 hG4 hv4 hG2 hv2 hst hvs1 hvs2 hvar hb2 hb3 n0 n1 n2 n3 n4 n5 n6 hN1 hN2 hG1 hv1 hst1 p0 p1 p2 p3 p4 p5 hst4 hbl hne1 hne2
          generalize w3 = W at *
          have hAl := (Below.refl W.heap.size W).alloc (Nat.le_refl _) (.cells #[.int .i64 0, .string ⟨#[]⟩, .int .i64 0, .bool false, .bool false, .bool false, .slice none 0 0] 49)
          have a6 := (hAl.cell (p := ⟨w.heap.size + 1, 0, none⟩) (by show w.heap.size + 1 < W.heap.size; omega)).trans hvs4
          have a7 := (hAl.frozen (p := ⟨w.heap.size + 1, 0, none⟩) (by show w.heap.size + 1 < W.heap.size; omega)).trans hvf4
          have b0 := (hAl.cell (p := ⟨wr.heap.size, 0, none⟩) hszW).trans m0
          have b1 := (hAl.cell (p := ⟨wr.heap.size, 1, none⟩) hszW).trans m1
          have b2 := (hAl.cell (p := ⟨wr.heap.size, 2, none⟩) hszW).trans m2
          have b3 := (hAl.cell (p := ⟨wr.heap.size, 3, none⟩) hszW).trans m3
          have b4 := (hAl.cell (p := ⟨wr.heap.size, 4, none⟩) hszW).trans m4
          have b5 := (hAl.cell (p := ⟨wr.heap.size, 5, none⟩) hszW).trans m5
          have b6 := (hAl.cell (p := ⟨wr.heap.size, 6, none⟩) hszW).trans m6
          clear hAl
          have hi0' : (0 : Int) ≤ (n : Int) := by omega
          have hi1' : (n : Int) < (n : Int) + 1 := by omega
          go_region_law
            ((refine step_append_lies _ (by rfl) _ _ _ (by rfl) (w.heap.size + 2) 49 i0 _ 7 64 Tryz.underlying93 hi hz0 hz1 hz2 rfl (by omega) (.slice sa n sc) n ((es.map Ent.fl).flatMap ncells) (by rfl) ((hown.alloc _).drew) ⟨W.heap.size, 0, none⟩ 1 1 zerosN (by rfl) (by rfl) (World.news_of_block (cs := #[.int .i64 0, .string ⟨#[]⟩, .int .i64 0, .bool false, .bool false, .bool false, .slice none 0 0]) (t := 49) (fr := (0, 0)) (heap_alloc_new W _)) (by simp [zerosN, Value.oneCell']) (by omega) (by unfold maxLen; omega) (by omega) (by simp; omega) (W.heap.size + 1) (by simp) ?_; intro gg cap w1' hown1 hgrow hat hlt1; have zz := zero_cells HF.out hown1; have z0 : w1'.cell? ⟨gg, n * 7, none⟩ = some (.int .i64 0) := zz 0 _ rfl; have z1 := zz 1 _ rfl; have z2 := zz 2 _ rfl; have z3 := zz 3 _ rfl; have z4 := zz 4 _ rfl; have z5 := zz 5 _ rfl; have z6 := zz 6 _ rfl; have ff := hown1.frozenAt; have f0 := ff (n * 7); have f1 := ff (n * 7 + 1); have f2 := ff (n * 7 + 2); have f3 := ff (n * 7 + 3); have f4 := ff (n * 7 + 4); have f5 := ff (n * 7 + 5); have f6 := ff (n * 7 + 6); have HOWN := Lib.hid hown1; have HAT := Lib.hid hat; have HGR := Lib.hid hgrow; have hgg : gg ≠ w.heap.size + 1 := far_block hat hnsb (by omega); have hgg2 : gg ≠ wr.heap.size := far_block hat hnnb (by omega); have hgf1 : w1'.frozen? ⟨w.heap.size + 1, 0, none⟩ = false := (hgrow.frozen_far ⟨w.heap.size + 1, 0, none⟩ (by simp; omega) (Ne.symm hnsb)).trans ((((Below.refl W.heap.size W).alloc (Nat.le_refl _) _).drew.frozen (p := ⟨w.heap.size + 1, 0, none⟩) (by show w.heap.size + 1 < W.heap.size; omega)).trans hvf4); have hgc1 : w1'.cell? ⟨w.heap.size + 1, 0, none⟩ = some (.slice sa n sc) := (hgrow.cell_far ⟨w.heap.size + 1, 0, none⟩ (by simp; omega) (Ne.symm hnsb)).trans ((((Below.refl W.heap.size W).alloc (Nat.le_refl _) _).drew.cell (p := ⟨w.heap.size + 1, 0, none⟩) (by show w.heap.size + 1 < W.heap.size; omega)).trans hvs4); have far : ∀ (i : Nat) (y : Value), W.cell? ⟨wr.heap.size, i, none⟩ = some y → w1'.cell? ⟨wr.heap.size, i, none⟩ = some y := fun i y hy => (hgrow.cell_far ⟨wr.heap.size, i, none⟩ (by simp; omega) (Ne.symm hnnb)).trans ((((Below.refl W.heap.size W).alloc (Nat.le_refl _) _).drew.cell (p := ⟨wr.heap.size, i, none⟩) (by show wr.heap.size < W.heap.size; omega)).trans hy); have yy0 := far 0 _ m0; have yy1 := far 1 _ m1; have yy2 := far 2 _ m2; have yy3 := far 3 _ m3; have yy4 := far 4 _ m4; have yy5 := far 5 _ m5; have yy6 := far 6 _ m6; clear zz ff hown1 hat hgrow far))
          all_goals
            (try simp only [sc_far hgg])
            have hPF := push_fin (t := t) HST4 HV4 hn (by omega) (by omega) HF HOWN HAT HGR
            go_wp2
            go_roundw
            case rel =>
              refine ⟨p + 1, .slice (some ⟨gg, 0, none⟩) (n + 1) cap, es ++ [⟨t, [], .slice none 0 0, []⟩], by go_num, by omega, by have := HI.out.ge; omega, hPF.2.1, hPF.1, by rw [List.length_append]; simp; omega, ?_, ?_, ?_, by intro _ h; simp at h⟩
              · intro x hx
                rw [List.mem_append] at hx
                rcases hx with hx | hx
                · have := HI.out.fs x hx; omega
                · simp at hx; subst hx; simp
              · rw [← HI.out.run, HD.out, stkOf_snoc, oneS_opens (by have := cls_stk es t; rw [hcl] at this; exact this) hclo2]
              · exact (HI.out.bel.trans (HG4.out.below (Nat.le_refl _) (by omega))).trans hPF.2.2
            case measure => simp [intOf]; omega
    · clear HC
      have hp : p = ts.length := by have := hI.le; omega
      obtain ⟨nd, hnd⟩ : ∃ nd, (oneS [] (ts.drop a)).1 = nd := ⟨_, rfl⟩
      have hS : ShutI (w.heap.size + 2) (w.heap.size + 1) w1 ts.length nd wr sv es := ⟨hI.var, hI.st, by have := hI.len; omega, fun e he => by have := hI.fs e he; have := hI.len; omega, by rw [← hnd, ← hI.run, hp, List.drop_length, oneS_nil], hI.bel, hI.ne (by omega)⟩
      have hrest : (oneS [] (ts.drop a)).2 = [] := by rw [← hI.run, hp, List.drop_length, oneS_nil]
      have HE := Lib.hid (show oneS [] (ts.drop a) = (nd, ts.drop ts.length) by rw [List.drop_length, ← hnd, ← hrest])
      clear hI hnd hrest
      subst hp
      have HS0 := Lib.hid hS
      clear hS
      go_wp2
      go_loopw [] (fun wr => ∃ sv es, ShutI (w.heap.size + 2) (w.heap.size + 1) w1 ts.length nd wr sv es) (fun wr => stkLen (w.heap.size + 1) wr)
      case atStart => exact ⟨sv, es, HS0.out⟩
      case round =>
        obtain ⟨sv, es, hS⟩ := hrel
        clear HS0
        rcases List.eq_nil_or_concat es with rfl | ⟨es', e, rfl⟩
        · exact absurd rfl hS.ne
        rw [List.concat_eq_append] at hS
        rcases hS.st.shape with ⟨_, hnil⟩ | ⟨g, c', rfl, hc', hBg, hgl⟩
        · simp at hnil
        obtain ⟨ua, un, uc, hu⟩ := (hS.st.kids e (by simp)).1.sl
        obtain ⟨et, ek, eu, ef⟩ := e
        simp only at hu
        subst hu
        have HS := Lib.hid hS
        clear hS
        have hwrs : w.heap.size + 2 ≤ wr.heap.size := by have := HS.out.bel.size; have := (Array.getElem?_eq_some_iff.1 HS.out.var).1; omega
        rcases List.eq_nil_or_concat es' with rfl | ⟨es2, e2, rfl⟩
        · rw [List.nil_append, show ([(⟨et, ek, .slice ua un uc, ef⟩ : Ent)] : List Ent).length = 1 from rfl] at *
          have hvs := VarS.cell HS.out.var
          have hla := StkM.last (es := []) HS.out.st
          obtain ⟨l0, l1, l2, l3, l4, l5, l6⟩ := hla
          simp only [List.length_nil, Nat.zero_mul, Nat.zero_add] at l0 l1 l2 l3 l4 l5 l6
          have HP := Lib.hid (StkM.pop (es := []) HS.out.st)
          have hR4 : NB wr w.heap.size { kind := 0 } (.slice none 0 0) := (show NB w1 w.heap.size { kind := 0 } (.slice none 0 0) from HR.out).below HS.out.bel (by omega)
          obtain ⟨q0, q1, q2, q3, q4, q5, q6⟩ := hR4.at
          have qf := hR4.frz
          have qf0 := qf 0; have qf1 := qf 1; have qf2 := qf 2; have qf3 := qf 3; have qf4 := qf 4; have qf5 := qf 5; have qf6 := qf 6
          clear hR4 qf
          go_wp2
          refine bodyPost_ret (v := .tuple #[nval et (.slice ua un uc), .int .i64 (ts.length : Int)]) ?_ rfl (one_post (k := ek) (nx := ts.length) ?_ (Nat.le_refl _) ?_ ?_)
          · simp [results, Tryz.results49, go_sem, q0, q1, q2, q3, q4, q5, q6]
          · rw [HE.out, ← HS.out.run, show stkOf [(⟨et, ek, .slice ua un uc, ef⟩ : Ent)] = [(et, ek)] from rfl]
            unfold shutS
            rfl
          all_goals have hT := one_told (t := et) HB0.out HS.out.bel (Gw.refl _ _) (by omega) (by omega) HP.out.2
          · exact hT.1
          · exact hT.2
        · rw [List.concat_eq_append] at *
          have hlp := HS.out.len
          obtain ⟨n, hn⟩ : ∃ n, es2.length = n := ⟨_, rfl⟩
          rw [show (es2 ++ [e2] ++ [(⟨et, ek, .slice ua un uc, ef⟩ : Ent)]).length = n + 2 by simp [hn]] at HS hc' hlp
          have hl1 : (es2 ++ [e2]).length = n + 1 := by simp [hn]
          have hvs1 := VarS.cell HS.out.var
          have hP := StkM.pop HS.out.st
          rw [hl1] at hP
          have hm1 : (1 : Int) < (n : Int) + 2 := by omega
          go_upto_region 17 with (go_at_call 68; refine (pop_n (B := w.heap.size + 2) (es := es2 ++ [e2]) (e := (⟨et, ek, .slice ua un uc, ef⟩ : Ent)) (n := n + 1) hl1 HS.out.st HS.out.var (by omega) (by omega)).mono ?_; rintro e w3 ⟨rfl, hg3, hv3⟩)
          have hN4 := NB.new w3 et (.slice ua un uc)
          have hG4 := Gw.alloc hg3 (.cells #[.int .i64 et.kind, .string et.text, .int .i64 et.int, .bool et.whole, .bool et.sign, .bool et.id, .slice ua un uc] 49)
          have hv4 := hv3.below ((Below.refl w3.heap.size w3).alloc (Nat.le_refl _) (.cells #[.int .i64 et.kind, .string et.text, .int .i64 et.int, .bool et.whole, .bool et.sign, .bool et.id, .slice ua un uc] 49)) (by have := hg3.size; omega)
          generalize (w3.alloc (.cells #[.int .i64 et.kind, .string et.text, .int .i64 et.int, .bool et.whole, .bool et.sign, .bool et.id, .slice ua un uc] 49)) = W4 at *
          have hvs4 := VarS.cell hv4
          obtain ⟨m0, m1, m2, m3, m4, m5, m6⟩ := hN4.at
          have HG4 := Lib.hid hG4
          have HV4 := Lib.hid hv4
          have HS4 := Lib.hid (hP.1.gw hG4 (by omega))
          have HX4 := Lib.hid (Gw.free hG4 (by omega) hP.2)
          have hfs := HS.out.fs e2 (by simp)
          have HL4 := Lib.hid (show e2.k.length = e2.fs.length by have := (HS.out.st.kids e2 (by simp)).2.len; omega)
          clear hN4 hG4 hv4 hP hv3 hg3 hvs1
          go_wp2_with (first | (go_at_call 70; refine (add_n (B := w.heap.size + 2) (sb := w.heap.size + 1) (es := es2) (e := e2) (n := n) hn HS4.out HX4.out HV4.out (by have := HG4.out.size; omega) (by omega) (by have := hfs; omega)).mono ?_; rintro e w5 ⟨rfl, ⟨u5', f5, hst5, hf5⟩, hb5⟩))
          go_roundw
          case rel =>
            refine ⟨_, _, (by rw [← hn] at HV4; exact HV4.out.below hb5 (by omega)), hst5, by rw [List.length_append]; simp; omega, ?_, ?_, ?_, by simp⟩
            · intro x hx
              have hlx : (es2 ++ [e2] ++ [(⟨et, ek, .slice ua un uc, ef⟩ : Ent)]).length = n + 2 := by simp [hn]
              rw [List.length_append, hn]
              rw [List.mem_append] at hx
              rcases hx with hx | hx
              · have := HS.out.fs x (by simp [hx]); rw [hlx] at this; simp; omega
              · rw [hlx] at hfs; simp at hx; subst hx; simp only; have := HL4.out; rw [hf5]; split <;> simp <;> omega
            · rw [← HS.out.run]; exact (shut_step (es := es2) (e2 := e2) (e := (⟨et, ek, .slice ua un uc, ef⟩ : Ent)) (u := u5') (fs := f5)).symm
            · exact (HS.out.bel.trans (HG4.out.below (Nat.le_refl _) (by omega))).trans (hb5.mono (by omega))
          case measure =>
            rw [stkLen_of HS.out.var, stkLen_of (HV4.out.below hb5 (by omega))]
            omega
end Go.Proofs.YtfggpenfdfklkaaGreat
