import Derived.Test.YtclicjiakkcfcaaGreatDoorSmA
import Derived.Deep.CutRange
namespace Go.Proofs.YtclicjiakkcfcaaGreatDoor
open Go.RowKit
theorem bareSms_app : ∀ a b : List SmD, bareSms (a ++ b) = ((bareSms a).1.add (bareSms b).1, (bareSms a).2 ++ (bareSms b).2)
  | [], b => by
   show bareSms b = (W3.zero.add (bareSms b).1, [] ++ (bareSms b).2)
   rw [W3.add_comm, W3.add_zero]
   rfl
  | .mk k n o x f a' b' l :: a, b => by
   show bareSms (.mk k n o x f a' b' l :: (a ++ b)) = _
   rw [bareSms, bareSms, bareSms_app a b, W3.add_assoc, List.append_assoc]
theorem bareCms_app : ∀ a b : List CmD, bareCms (a ++ b) = ((bareCms a).1.add (bareCms b).1, (bareCms a).2 ++ (bareCms b).2)
  | [], b => by
   show bareCms b = (W3.zero.add (bareCms b).1, [] ++ (bareCms b).2)
   rw [W3.add_comm, W3.add_zero]
   rfl
  | .mk t s :: a, b => by
   show bareCms (.mk t s :: (a ++ b)) = _
   rw [bareCms, bareCms, bareCms_app a b]
   simp only [W3.add_assoc, List.append_assoc]
theorem rdG.rowAt {α : Type} {f : α → List Dt} {w : World} {Q : Nat → Prop} {k : Nat} {S : List α} {v : Value} (h : rdG w Q (.sl k (S.map f)) v) (hp : 0 < S.length) :
    ∃ b off c, v = .slice (some ⟨b, off, none⟩) S.length c ∧ Q b ∧ b < w.heap.size ∧ ∀ j (hj : j < S.length) i (hi : i < (f S[j]).length), ∃ u, w.cell? ⟨b, off + j * k + i, none⟩ = some u ∧ rdG w Q (f S[j])[i] u := by
  obtain ⟨b, off, c, hv, hle, hQ, hb, hr⟩ := h.base (by rw [List.length_map]; exact hp)
  rw [List.length_map] at hv
  refine ⟨b, off, c, hv, hQ, hb, fun j hj i hi => ?_⟩
  obtain ⟨_, h2⟩ := hr j (by rw [List.length_map]; exact hj)
  have hi2 : i < ((S.map f)[j]'(by rw [List.length_map]; exact hj)).length := by rw [List.getElem_map]; exact hi
  obtain ⟨u, hu, hd⟩ := h2 i hi2
  refine ⟨u, hu, ?_⟩
  have he : ((S.map f)[j]'(by rw [List.length_map]; exact hj))[i] = (f S[j])[i] := by congr 1; rw [List.getElem_map]
  rw [he] at hd
  exact hd
theorem rdG.cmAt {w : World} {Q : Nat → Prop} {S : List CmD} {b off : Nat} (h : ∀ j (hj : j < S.length) i (hi : i < (CmD.dt S[j]).length), ∃ u, w.cell? ⟨b, off + j * 2 + i, none⟩ = some u ∧ rdG w Q (CmD.dt S[j])[i] u) (j : Nat) (hj : j < S.length) :
    ∃ t s sa sc, S[j] = .mk t s ∧ w.cell? ⟨b, off + j * 2, none⟩ = some (.string t) ∧ w.cell? ⟨b, off + j * 2 + 1, none⟩ = some (.slice sa s.length sc) ∧ rdG w Q (.sl 8 (smsDt s)) (.slice sa s.length sc) := by
  have h0 := h j hj
  generalize S[j] = x at *
  cases x with
  | mk t s =>
   simp only [CmD.dt] at h0
   obtain ⟨u0, hc0, hr0⟩ := h0 0 (by simp)
   obtain ⟨u1, hc1, hr1⟩ := h0 1 (by simp)
   simp only [List.getElem_cons_zero, List.getElem_cons_succ] at hr0 hr1
   obtain rfl := hr0.leaf
   obtain ⟨sa, sc, rfl, _⟩ := hr1.shape
   rw [smsDt_len] at hc1 hr1
   exact ⟨t, s, sa, sc, rfl, hc0, hc1, hr1⟩
theorem rdG.smAt {w : World} {Q : Nat → Prop} {S : List SmD} {b off : Nat} (h : ∀ j (hj : j < S.length) i (hi : i < (SmD.dt S[j]).length), ∃ u, w.cell? ⟨b, off + j * 8 + i, none⟩ = some u ∧ rdG w Q (SmD.dt S[j])[i] u) (j : Nat) (hj : j < S.length) :
    ∃ k n o x f a b' L ua uc, S[j] = .mk k n o x f a b' L ∧ w.cell? ⟨b, off + j * 8, none⟩ = some (.int .i64 k) ∧ w.cell? ⟨b, off + j * 8 + 1, none⟩ = some (.string n) ∧ w.cell? ⟨b, off + j * 8 + 2, none⟩ = some (.string o) ∧ w.cell? ⟨b, off + j * 8 + 3, none⟩ = some (.string x) ∧ w.cell? ⟨b, off + j * 8 + 4, none⟩ = some (.bool f) ∧ w.cell? ⟨b, off + j * 8 + 5, none⟩ = some (.int .i64 a) ∧ w.cell? ⟨b, off + j * 8 + 6, none⟩ = some (.int .i64 b') ∧ w.cell? ⟨b, off + j * 8 + 7, none⟩ = some (.slice ua L.length uc) ∧ rdG w Q (.sl 3 (cxsDt L)) (.slice ua L.length uc) := by
  have h0 := h j hj
  generalize S[j] = s at *
  cases s with
  | mk k n o x f a b' L =>
   simp only [SmD.dt] at h0
   obtain ⟨u0, c0, r0⟩ := h0 0 (by simp)
   obtain ⟨u1, c1, r1⟩ := h0 1 (by simp)
   obtain ⟨u2, c2, r2⟩ := h0 2 (by simp)
   obtain ⟨u3, c3, r3⟩ := h0 3 (by simp)
   obtain ⟨u4, c4, r4⟩ := h0 4 (by simp)
   obtain ⟨u5, c5, r5⟩ := h0 5 (by simp)
   obtain ⟨u6, c6, r6⟩ := h0 6 (by simp)
   obtain ⟨u7, c7, r7⟩ := h0 7 (by simp)
   simp only [List.getElem_cons_zero, List.getElem_cons_succ] at r0 r1 r2 r3 r4 r5 r6 r7
   obtain rfl := r0.leaf
   obtain rfl := r1.leaf
   obtain rfl := r2.leaf
   obtain rfl := r3.leaf
   obtain rfl := r4.leaf
   obtain rfl := r5.leaf
   obtain rfl := r6.leaf
   obtain ⟨ua, uc, rfl, _⟩ := r7.shape
   rw [cxsDt_len] at c7 r7
   exact ⟨k, n, o, x, f, a, b', L, ua, uc, rfl, c0, c1, c2, c3, c4, c5, c6, c7, r7⟩
def bndW (n : Int) (w : W3) : Prop := 0 ≤ w.a ∧ w.a ≤ n ∧ 0 ≤ w.b ∧ w.b ≤ n ∧ 0 ≤ w.c ∧ w.c ≤ n
theorem bndW.add {n m : Int} {x y : W3} (h : bndW n x) (h' : bndW m y) : bndW (n + m) (x.add y) := by
 unfold bndW W3.add at *
 simp only
 omega
theorem smOwn_bnd (k : Int) : bndW 1 (smOwn k) := by
 unfold smOwn bndW
 split
 · simp
 · split <;> simp
theorem cmOwn_bnd (t : ByteArray) : bndW 1 (cmOwn t) := by
 unfold cmOwn bndW
 split <;> simp
theorem cxOwn_bnd (k : Int) : bndW 1 (cxOwn k) := by
 unfold cxOwn bndW
 split <;> simp
theorem bareSms_bnd : ∀ l : List SmD, bndW (l.length : Int) (bareSms l).1
  | [] => by
   rw [bareSms]
   unfold bndW W3.zero
   simp
  | .mk k n o x f a b l :: r => by
   rw [bareSms]
   have h := (smOwn_bnd k).add (bareSms_bnd r)
   rw [List.length_cons]
   rw [show ((r.length + 1 : Nat) : Int) = 1 + (r.length : Int) by omega]
   exact h
def cmS : CmD → List SmD
  | .mk _ s => s
theorem bareCms_bnd : ∀ l : List CmD, (∀ c ∈ l, (cmS c).length ≤ 16) → bndW (17 * (l.length : Int)) (bareCms l).1
  | [], _ => by
   rw [bareCms]
   unfold bndW W3.zero
   simp
  | .mk t s :: r, h => by
   rw [bareCms]
   have h1 := ((cmOwn_bnd t).add (bareSms_bnd s)).add (bareCms_bnd r fun c hc => h c (List.mem_cons_of_mem _ hc))
   have h2 : s.length ≤ 16 := h _ (List.mem_cons_self ..)
   rw [List.length_cons]
   show bndW _ (((cmOwn t).add (bareSms s).1).add (bareCms r).1)
   unfold bndW at *
   omega
theorem wr_one {x : Int} (h : 0 ≤ x) (h2 : x ≤ 1000) : wrap64 (x + 1) = x + 1 := by unfold wrap64; omega
theorem kinds_cases (k : Int) : k = 1 ∨ k = 2 ∨ k = 3 ∨ k = 4 ∨ k = 5 ∨ k = 6 ∨ k = 7 ∨ k = 8 ∨ k = 9 ∨ k = 10 ∨ k = 11 ∨ k = 12 ∨ ((k == 1) = false ∧ (k == 2) = false ∧ (k == 3) = false ∧ (k == 4) = false ∧ (k == 5) = false ∧ (k == 6) = false ∧ (k == 7) = false ∧ (k == 8) = false ∧ (k == 9) = false ∧ (k == 10) = false ∧ (k == 11) = false ∧ (k == 12) = false) := by
 simp only [beq_eq_false_iff_ne]
 omega
theorem own_other {k : Int} (h : (k == 1) = false ∧ (k == 2) = false ∧ (k == 3) = false ∧ (k == 4) = false ∧ (k == 5) = false ∧ (k == 6) = false ∧ (k == 7) = false ∧ (k == 8) = false ∧ (k == 9) = false ∧ (k == 10) = false ∧ (k == 11) = false ∧ (k == 12) = false) : smOwn k = W3.zero ∧ smHas k = false := by
 obtain ⟨h1, h2, h3, h4, h5, h6, h7, h8, h9, h10, h11, h12⟩ := h
 refine ⟨?_, by unfold smHas; rw [h9, h10, h11, h12]; rfl⟩
 unfold smOwn
 rw [if_neg (by rw [h1]; decide), if_neg]
 · rfl
 · simp only [beq_eq_false_iff_ne] at *
   simp only [Bool.and_eq_true, decide_eq_true_eq]
   omega
theorem bare_step {S : List SmD} {j : Nat} (hj : j < S.length) {k : Int} {n o x : ByteArray} {f : Bool} {a b : Int} {L : List CxD} (h : S[j] = .mk k n o x f a b L) (base : W3) (lb : List (List CxD)) :
    base.add (bareSms (S.take (j + 1))).1 = (base.add (bareSms (S.take j)).1).add (smOwn k) ∧ lb ++ (bareSms (S.take (j + 1))).2 = (lb ++ (bareSms (S.take j)).2) ++ (if smHas k = true then [L] else []) := by
  rw [List.take_succ_eq_append_getElem hj, h, bareSms_app]
  simp only [bareSms, W3.add_zero, List.append_nil]
  exact ⟨(W3.add_assoc _ _ _).symm, (List.append_assoc _ _ _).symm⟩
theorem bareC_step {S : List CmD} {j : Nat} (hj : j < S.length) {t : ByteArray} {s : List SmD} (h : S[j] = .mk t s) (base : W3) :
    base.add (bareCms (S.take (j + 1))).1 = ((base.add (bareCms (S.take j)).1).add (cmOwn t)).add (bareSms s).1 ∧ (bareCms (S.take (j + 1))).2 = (bareCms (S.take j)).2 ++ (bareSms s).2 := by
  rw [List.take_succ_eq_append_getElem hj, h, bareCms_app]
  simp only [bareCms, W3.add_zero, List.append_nil]
  exact ⟨by simp only [W3.add_assoc], trivial⟩
theorem info_lst : (Tryz.prog.info? 26).map (fun i => (i.zero, i.size, i.bytes)) = some (some (.slice none 0 0), 1, 24) := by kernel_rfl
theorem lst_news (w : World) (u : Value) (T : TypeId) : ∀ j y, ([u])[j]? = some y → (w.alloc (.cells #[u] T)).cell? ((⟨w.heap.size, 0, none⟩ : Addr).add j) = some y :=
 World.news_of_block (cs := #[u]) (heap_alloc_self _ _)
theorem lst_oneL (p : Option Addr) (m c : Nat) : ∀ u ∈ [Value.slice p m c], u.oneCell' = true := by
 intro u hu
 simp only [List.mem_cons, List.not_mem_nil, or_false] at hu
 rcases hu with rfl
 rfl
theorem lst_cells {W : World} {Q : Nat → Prop} {L : List CxD} {u : Value} (h : rdG W Q (.sl 3 (cxsDt L)) u) : CellsOk W Q 1 ([u], [Dt.sl 3 (cxsDt L)]) := by
 refine ⟨rfl, rfl, ?_⟩
 intro i h1 h2
 have h2 : i < 1 := h2
 match i, h2 with
 | 0, _ => exact h
abbrev lsDt (ls : List (List CxD)) : List (List Dt) := ls.map fun l => [Dt.sl 3 (cxsDt l)]
structure BrI (w : World) (Q : Nat → Prop) (gr B : Nat) (acc : W3) (ls : List (List CxD)) (lv : Value) (ks : List (List Value × List Dt)) (wr : World) : Prop where
  res : CB 37 wr gr acc.cs
  row : LsG (fun b => Q b ∧ b < w.heap.size) B 26 1 wr lv ks
  got : ks.map Prod.snd = lsDt ls
  bel : Below w.heap.size w wr
  o1 : w.heap.size ≤ gr
  o2 : gr < B
  o3 : B ≤ wr.heap.size
section
variable {w W W' : World} {Q : Nat → Prop} {gr B : Nat} {acc : W3} {ls : List (List CxD)} {lv : Value} {ks : List (List Value × List Dt)}
theorem BrI.below (h : BrI w Q gr B acc ls lv ks W) (hb : Below W.heap.size W W') : BrI w Q gr B acc ls lv ks W' :=
 ⟨h.res.below hb h.res.lt, h.row.below hb, h.got, belowU h.bel hb, h.o1, h.o2, Nat.le_trans h.o3 hb.size⟩
theorem BrI.set (h : BrI w Q gr B acc ls lv ks W) {k : Nat} {u : Value} {acc' : W3} (hc : acc.cs.setIfInBounds k u = acc'.cs) : BrI w Q gr B acc' ls lv ks (W.setCell ⟨gr, k, none⟩ u) := by
 have h1 := h.o1
 have h2 := h.o2
 have hr := h.res.set k u
 rw [hc] at hr
 refine ⟨hr, h.row.keepQ (fun g hg _ => heap_setCell_other W ⟨gr, k, none⟩ g u ?_) (fun g hg _ => heap_setCell_other W ⟨gr, k, none⟩ g u ?_) (fun g hg _ => hg) (by simp), h.got, h.bel.setCell (p := ⟨gr, k, none⟩) h1 u, h1, h2, by simp; exact h.o3⟩
 · have := (World.ownsRow.lt h.row.row g hg).1
   show g ≠ gr
   omega
 · have := hg.2
   show g ≠ gr
   omega
theorem BrI.push (h : BrI w Q gr B acc ls lv ks W) {v' : Value} {e : List Value × List Dt} {L : List CxD} (hG : W.grownBy W' lv.ownBlock) (hrow : LsG (fun b => Q b ∧ b < w.heap.size) B 26 1 W' v' (ks ++ [e])) (he : e.2 = [Dt.sl 3 (cxsDt L)]) : BrI w Q gr B acc (ls ++ [L]) v' (ks ++ [e]) W' := by
 have h1 := h.o1
 have h2 := h.o2
 refine ⟨h.res.grows hG (fun e => by have := (World.ownsRow.lt h.row.row gr e.symm).1; omega), hrow, ?_, h.bel.grown hG (Nat.le_trans (by omega) h.o3) (fun q hq => Nat.le_trans (by omega) (World.ownsRow.lt h.row.row q hq).1), h1, h2, Nat.le_trans h.o3 hG.size⟩
 unfold lsDt
 rw [List.map_append, List.map_append, h.got]
 show _ ++ [e.2] = _
 rw [he]
 rfl
end
def BarePost (w : World) (Q : Nat → Prop) (r : W3 × List (List CxD)) (e : Ending) (w' : World) : Prop :=
 ∃ u ks, e = .returned (.tuple #[.agg r.1.cs, u]) ∧ LsG (fun b => Q b ∧ b < w.heap.size) w.heap.size 26 1 w' u ks ∧ ks.map Prod.snd = lsDt r.2 ∧ Below w.heap.size w w'
theorem LsG.base {Q : Nat → Prop} {B B' k : Nat} {T : TypeId} {w : World} {v : Value} {ks : List (List Value × List Dt)} (h : LsG Q B T k w v ks) (hB : B' ≤ B) : LsG Q B' T k w v ks := by
 refine ⟨⟨h.row.1, ?_⟩, h.ok⟩
 rcases h.row.2 with hn | ⟨g, cap, cur, hv, hb, rest⟩
 · exact .inl hn
 · exact .inr ⟨g, cap, cur, hv, Nat.le_trans hB hb, rest⟩
end Go.Proofs.YtclicjiakkcfcaaGreatDoor
