
import Derived.Test.YtfggpenfdfklkaaGreatRuL
import Derived.Test.YtfggpenfdfklkaaGreatShE
import Derived.Deep.RegionHeld3
import Derived.BigRegion
import Derived.Laws.Rows
namespace Go.Proofs.YtfggpenfdfklkaaGreat
open Go.RowKit
/-! Package rules: a rule, as it is read. -/
section
variable {P : Nat → Prop} {w0 w w' : World} {b : Nat} {v : Value} {l : List Nd} {i : Nat}
theorem WN.far (h : WN P w0 b v l i w) {p : Addr} (hp : w0.heap.size ≤ p.block) (u : Value) : WN P w0 b v l i (w.setCell p u) :=
  ⟨⟨(heap_setCell_other w p b u (by have := h.old; omega)).trans h.wk.blk⟩, h.gw.set (Or.inr hp) u, h.old, h.rd, h.ne, h.le⟩
end
/-- The walk since the world w, and the two rules that the call has laid: what it answers, and r. -/
structure RuO (P : Nat → Prop) (w : World) (b : Nat) (v : Value) (l : List Nd) (j : Nat) (s : ByteArray) (pv : Value) (bl : Bool) (dv : Value) (W : World) : Prop where
  wn : WN P w b v l j W
  c0 : CB 45 W w.heap.size (ruC ⟨#[]⟩ (.slice none 0 0) false (.slice none 0 0))
  c1 : CB 45 W (w.heap.size + 1) (ruC s pv bl dv)
section
variable {P : Nat → Prop} {w W W' : World} {b : Nat} {v : Value} {l : List Nd} {j j' : Nat} {s : ByteArray} {pv dv : Value} {bl : Bool}
theorem RuO.lt (h : RuO P w b v l j s pv bl dv W) : w.heap.size + 1 < W.heap.size := h.c1.lt
theorem RuO.go (h : RuO P w b v l j s pv bl dv W) (k : WN P W b v l j' W') : RuO P w b v l j' s pv bl dv W' :=
  have ho := h.wn.old
  ⟨h.wn.since k, (k.gw.block _ h.c0.lt (fun e => by have := Option.some.inj e; omega)).trans h.c0, (k.gw.block _ h.c1.lt (fun e => by have := Option.some.inj e; omega)).trans h.c1⟩
theorem RuO.below (h : RuO P w b v l j s pv bl dv W) (hb : Below W.heap.size W W') : RuO P w b v l j s pv bl dv W' := ⟨h.wn.below hb, h.c0.below hb h.c0.lt, h.c1.below hb h.c1.lt⟩
theorem RuO.drew (h : RuO P w b v l j s pv bl dv W) : RuO P w b v l j s pv bl dv W.drew := h.below (Below.refl _ _).drew
theorem RuO.set0 (h : RuO P w b v l j s pv bl dv W) (x : ByteArray) : RuO P w b v l j x pv bl dv (W.setCell ⟨w.heap.size + 1, 0, none⟩ (.string x)) :=
  ⟨h.wn.far (Nat.le_succ _) _, h.c0.far (by show _ ≠ w.heap.size + 1; omega) _, h.c1.set 0 _⟩
theorem RuO.set1 (h : RuO P w b v l j s pv bl dv W) (x : Value) : RuO P w b v l j s x bl dv (W.setCell ⟨w.heap.size + 1, 1, none⟩ x) :=
  ⟨h.wn.far (Nat.le_succ _) _, h.c0.far (by show _ ≠ w.heap.size + 1; omega) _, h.c1.set 1 _⟩
theorem RuO.set2 (h : RuO P w b v l j s pv bl dv W) (x : Bool) : RuO P w b v l j s pv x dv (W.setCell ⟨w.heap.size + 1, 2, none⟩ (.bool x)) :=
  ⟨h.wn.far (Nat.le_succ _) _, h.c0.far (by show _ ≠ w.heap.size + 1; omega) _, h.c1.set 2 _⟩
theorem RuO.set3 (h : RuO P w b v l j s pv bl dv W) (x : Value) : RuO P w b v l j s pv bl x (W.setCell ⟨w.heap.size + 1, 3, none⟩ x) :=
  ⟨h.wn.far (Nat.le_succ _) _, h.c0.far (by show _ ≠ w.heap.size + 1; omega) _, h.c1.set 3 _⟩
theorem RuO.put (h : RuO P w b v l j s pv bl dv W) (k : Nat) (hk : k ≤ l.length) : RuO P w b v l k s pv bl dv (W.setCell ⟨b, 1, none⟩ (.int .i64 (k : Int))) :=
  have ho := h.wn.old
  ⟨h.wn.put k hk, h.c0.far (by show _ ≠ b; omega) _, h.c1.far (by show _ ≠ b; omega) _⟩
theorem RuO.here (h : RuO P w b v l j s pv bl dv W) : WN P W b v l j W := h.wn.here
/-- All but the walk's box and the two rules stays. -/
def RuQ (P : Nat → Prop) (w : World) (k : Nat) : Prop := P k ∨ w.heap.size + 2 ≤ k
theorem RuQ.ne {P : Nat → Prop} {w : World} {b k : Nat} (hq : RuQ P w k) (hb : b < w.heap.size) (hn : ∀ k, P k → k ≠ b) : k ≠ b := by
  rcases hq with hq | hq
  · exact hn k hq
  · omega
theorem RuQ.ne1 {P : Nat → Prop} {w : World} {k : Nat} (hq : RuQ P w k) (hP : ∀ k, P k → k < w.heap.size) : k ≠ w.heap.size + 1 := by
  rcases hq with hq | hq
  · have := hP k hq; omega
  · omega
theorem RuO.rdn {X : List Nd} {u : Value} (h : RuO P w b v l j s pv bl dv W) (k : WN P W b v l j' W') (hr : RdN W (RuQ P w) u X) : RdN W' (RuQ P w) u X :=
  hr.move (fun q hq hl => k.gw.block q hl (fun e => hq.ne h.wn.old h.wn.ne (Option.some.inj e))) k.gw.size
theorem RuO.rdd {X : List DeclD} {u : Value} (h : RuO P w b v l j s pv bl dv W) (k : WN P W b v l j' W') (hr : RdD W (RuQ P w) u X) : RdD W' (RuQ P w) u X :=
  hr.move (fun q hq hl => k.gw.block q hl (fun e => hq.ne h.wn.old h.wn.ne (Option.some.inj e))) k.gw.size
theorem rdn_set {X : List Nd} {u : Value} (hP : ∀ k, P k → k < w.heap.size) (hr : RdN W (RuQ P w) u X) (i : Nat) (x : Value) : RdN (W.setCell ⟨w.heap.size + 1, i, none⟩ x) (RuQ P w) u X :=
  hr.move (fun q hq _ => heap_setCell_other W ⟨w.heap.size + 1, i, none⟩ q x (hq.ne1 hP)) (by simp [World.setCell])
theorem rdn_box {X : List Nd} {u : Value} (hb : b < w.heap.size) (hn : ∀ k, P k → k ≠ b) (hr : RdN W (RuQ P w) u X) (i : Nat) (x : Value) : RdN (W.setCell ⟨b, i, none⟩ x) (RuQ P w) u X :=
  hr.move (fun q hq _ => heap_setCell_other W ⟨b, i, none⟩ q x (hq.ne hb hn)) (by simp [World.setCell])
theorem rdd_set {X : List DeclD} {u : Value} (hP : ∀ k, P k → k < w.heap.size) (hr : RdD W (RuQ P w) u X) (i : Nat) (x : Value) : RdD (W.setCell ⟨w.heap.size + 1, i, none⟩ x) (RuQ P w) u X :=
  hr.move (fun q hq _ => heap_setCell_other W ⟨w.heap.size + 1, i, none⟩ q x (hq.ne1 hP)) (by simp [World.setCell])
theorem rdd_box {X : List DeclD} {u : Value} (hb : b < w.heap.size) (hn : ∀ k, P k → k ≠ b) (hr : RdD W (RuQ P w) u X) (i : Nat) (x : Value) : RdD (W.setCell ⟨b, i, none⟩ x) (RuQ P w) u X :=
  hr.move (fun q hq _ => heap_setCell_other W ⟨b, i, none⟩ q x (hq.ne hb hn)) (by simp [World.setCell])
end
def okP (l : List Nd) (i : Nat) : Bool := (ruleP l i).block || !((ruleP l i).atw.toList.isEmpty)
def RulePost (P : Nat → Prop) (w : World) (b : Nat) (v : Value) (l : List Nd) (i : Nat) (e : Ending) (w' : World) : Prop :=
  (∃ pa pc da dc, e = .returned (.tuple #[.agg #[.string (ruleP l i).atw, .slice pa (ruleP l i).pre.length pc, .bool (ruleP l i).block, .slice da (ruleP l i).decls.length dc], .bool (okP l i)]) ∧ RdN w' (RuQ P w) (.slice pa (ruleP l i).pre.length pc) (ruleP l i).pre ∧ RdD w' (RuQ P w) (.slice da (ruleP l i).decls.length dc) (ruleP l i).decls) ∧ WN P w b v l (nextP l i) w'
end Go.Proofs.YtfggpenfdfklkaaGreat
namespace Go.Proofs.YtfggpenfdfklkaaGreat
open Go.RowKit
abbrev zRu : Array Value := #[.string ⟨#[]⟩, .slice none 0 0, .bool false, .slice none 0 0]
theorem rule_box {P : Nat → Prop} {w : World} {b : Nat} {v : Value} {l : List Nd} {i : Nat} (h : WN P w b v l i w) :
    RuO P w b v l i ⟨#[]⟩ (.slice none 0 0) false (.slice none 0 0) ((w.alloc (.cells #[.string ⟨#[]⟩, .slice none 0 0, .bool false, .slice none 0 0] 45)).alloc (.cells #[.string ⟨#[]⟩, .slice none 0 0, .bool false, .slice none 0 0] 45)) := by
  refine ⟨h.below (((Below.refl _ _).alloc (Nat.le_refl _) _).alloc (by simp) _), (CB.new w (ruC ⟨#[]⟩ (.slice none 0 0) false (.slice none 0 0))).alloc _, ?_⟩
  have h2 := CB.new (T := 45) (w.alloc (.cells #[.string ⟨#[]⟩, .slice none 0 0, .bool false, .slice none 0 0] 45)) (ruC ⟨#[]⟩ (.slice none 0 0) false (.slice none 0 0))
  rw [show (w.alloc (.cells #[.string ⟨#[]⟩, .slice none 0 0, .bool false, .slice none 0 0] 45)).heap.size = w.heap.size + 1 by simp] at h2
  exact h2
theorem far0 {w2 : World} {p q : Addr} {v a : Value} (h : w2.cell? p = some v) (hne : q ≠ p) : (w2.setCell q a).cell? p = some v := by
  rw [World.cell?_setCell_other _ _ _ _ hne]
  exact h
theorem RuQ.ne0 {P : Nat → Prop} {w : World} {k : Nat} (hq : RuQ P w k) (hP : ∀ k, P k → k < w.heap.size) : k ≠ w.heap.size := by
  rcases hq with hq | hq
  · have := hP k hq; omega
  · omega
abbrev putR (W : World) (B : Nat) (x : ByteArray) (p : Value) (bl : Bool) (d : Value) : World := (((W.setCell ⟨B, 0, none⟩ (.string x)).setCell ⟨B, 1, none⟩ p).setCell ⟨B, 2, none⟩ (.bool bl)).setCell ⟨B, 3, none⟩ d
theorem putR_other (W : World) (B : Nat) (x : ByteArray) (p : Value) (bl : Bool) (d : Value) {q : Nat} (h : q ≠ B) : (putR W B x p bl d).heap[q]? = W.heap[q]? := by
  rw [heap_setCell_other _ _ q _ h, heap_setCell_other _ _ q _ h, heap_setCell_other _ _ q _ h, heap_setCell_other _ _ q _ h]
theorem putR_size (W : World) (B : Nat) (x : ByteArray) (p : Value) (bl : Bool) (d : Value) : (putR W B x p bl d).heap.size = W.heap.size := by simp [World.setCell]
theorem results_cellZ {P : Program} {fn : Func} {p t2 : Tmp} {ty : TypeId} (h : fn.results = #[.cell p ty, .tmp t2]) (tmps : Array Value) (w : World) (g : Nat) (t : TypeId) (cs : Array Value) (fr : Nat × Nat) (d : TypeDesc) (x : Value)
    (hp : tmps.getD p undef = .pointer (some ⟨g, 0, none⟩)) (hx : tmps.getD t2 undef = x) (hg : w.heap[g]? = some (.cells cs t fr))
    (hu : P.underlying ty = some d) (hd : d.isRow = true) (hi : (P.info? ty).map (·.size) = some cs.size) :
    (results fn tmps).run P w = .ok (.tuple #[.agg cs, x]) w := by
  have hp' : tmps[p]?.getD undef = .pointer (some ⟨g, 0, none⟩) := by simpa using hp
  have hx' : tmps[t2]?.getD undef = x := by simpa using hx
  have hl := run_loadVar_row (P := P) w g t ty cs fr d hg hu (by cases d <;> simp_all [TypeDesc.isRow]) hi
  simp [results, h, hp', hx', asAddr, hl]
theorem rule_size : (Tryz.prog.info? 45).map (·.size) = some 4 := by kernel_rfl
theorem RuO.all {P : Nat → Prop} {w W : World} {b : Nat} {v : Value} {l : List Nd} {j : Nat} {s : ByteArray} {pv dv : Value} {bl : Bool} (h : RuO P w b v l j s pv bl dv W) (x : ByteArray) (p : Value) (b2 : Bool) (d : Value) : CB 45 (putR W w.heap.size x p b2 d).drew w.heap.size (ruC x p b2 d) := by
  have h1 := (((h.c0.set 0 (.string x)).set 1 p).set 2 (.bool b2)).set 3 d
  exact h1
theorem rule_fin {P : Nat → Prop} {w W : World} {b : Nat} {v : Value} {l : List Nd} {i : Nat} {AW : ByteArray} {pv dv : Value} {BL : Bool} (pa : Option Addr) (pc : Nat) (da : Option Addr) (dc : Nat) {PR : List Nd} {KD : List DeclD} (hR : ruleP l i = ⟨AW, PR, BL, KD⟩)
    (h : RuO P w b v l (nextP l i) AW pv BL dv W) (hp : RdN W (RuQ P w) (.slice pa PR.length pc) PR) (hd : RdD W (RuQ P w) (.slice da KD.length dc) KD) (hP : ∀ k, P k → k < w.heap.size) (x : ByteArray) (p : Value) (bl : Bool) (d : Value) :
    RulePost P w b v l i (.returned (.tuple #[.agg #[.string AW, .slice pa PR.length pc, .bool BL, .slice da KD.length dc], .bool (BL || !AW.toList.isEmpty)])) (putR W w.heap.size x p bl d).drew := by
  unfold RulePost okP
  rw [hR]
  refine ⟨⟨pa, pc, da, dc, rfl, ?_, ?_⟩, ?_⟩
  · exact hp.move (fun q hq _ => putR_other W _ x p bl d (hq.ne0 hP)) (by show _ ≤ (putR W w.heap.size x p bl d).heap.size; rw [putR_size]; exact Nat.le_refl _)
  · exact hd.move (fun q hq _ => putR_other W _ x p bl d (hq.ne0 hP)) (by show _ ≤ (putR W w.heap.size x p bl d).heap.size; rw [putR_size]; exact Nat.le_refl _)
  · exact ((((h.wn.far (Nat.le_refl _) _).far (Nat.le_refl _) _).far (Nat.le_refl _) _).far (Nat.le_refl _) _).drew
set_option maxRecDepth 100000 in
set_option maxHeartbeats 6400000 in
theorem rule_any {P : Nat → Prop} {w : World} {b : Nat} {v : Value} {l : List Nd} {i : Nat} (h : WN P w b v l i w) (hP : ∀ k, P k → k < w.heap.size) (hi : i < l.length) (hx : ∀ n ∈ l, n.tok.text.size ≤ 1000000000) (hxk : ∀ n ∈ l, ∀ m ∈ n.kids, m.tok.text.size ≤ 1000000000) (hz : szL l ≤ 100000000) :
    Calls Tryz.prog 28 #[.pointer (some ⟨b, 0, none⟩)] w (RulePost P w b v l i) := by
  have hll := szL_ge l
  have hN : l.length ≤ 100000000 := by omega
  have HAW := Lib.hid (fun (j : Nat) (W w0 : World) (hW : WN P w0 b v l j W) => atN aw_en atw_k hW hx)
  have HBK := Lib.hid (fun (j : Nat) (W w0 : World) (hW : WN P w0 b v l j W) => atN block_en block_k hW hx)
  have HO := Lib.hid (rule_box h)
  have hold := h.old
  have HNE := Lib.hid h.ne
  have HP := Lib.hid hP
  have HI := Lib.hid hi
  have HXK := Lib.hid hxk
  obtain ⟨AT, hAT⟩ : ∃ x, atP awT l i = x := ⟨_, rfl⟩
  have HAT := Lib.hid hAT
  obtain ⟨F, hF⟩ : ∃ F : Nat, F = if AT = true then 57 else 55 := ⟨_, rfl⟩
  have HK : Hid (KindOk F (endP l i)) := by
    show KindOk _ _
    unfold endP
    rw [hF, hAT]
    cases AT
    · exact block_k
    · exact eat_k
  have HE : Hid (∀ (args : Array Value) (w : World), (callFunc F args).run Tryz.prog w = .ok (.enter F args) w) := by
    show ∀ _ _, _
    rw [hF]
    cases AT
    · exact block_en
    · exact eat_en
  obtain ⟨BG, hBG⟩ : ∃ x, begP l i = x := ⟨_, rfl⟩
  have HBG : Hid (BG = if AT = true then i + 1 else i) := by
    show _ = _
    rw [← hBG]
    unfold begP
    rw [hAT]
  obtain ⟨ST, hST⟩ : ∃ x, stopP l i = x := ⟨_, rfl⟩
  have HU := Lib.hid (fun (W w0 : World) (hW : WN P w0 b v l BG W) => until_any HE.out HK.out hW hx hN)
  have hst2 : passP (notT (endP l i)) l BG = ST := by rw [← hST, ← hBG]; rfl
  rw [hst2] at HU
  obtain ⟨AW, hAW⟩ : ∃ x, x = if AT = true then lowS (tokAt l (i : Int)).text else ⟨#[]⟩ := ⟨_, rfl⟩
  obtain ⟨SG, hSG⟩ : ∃ x, (l.take ST).drop BG = x := ⟨_, rfl⟩
  rw [hSG] at HU
  have hzs : szL SG ≤ 100000000 := by rw [← hSG]; exact Nat.le_trans (szL_sub _ _) (Nat.le_trans (szL_le_take _ _) hz)
  obtain ⟨PR, hPR⟩ : ∃ x, trimS SG = x := ⟨_, rfl⟩
  obtain ⟨BL, hBL⟩ : ∃ x, atP blkT l ST = x := ⟨_, rfl⟩
  have HBL := Lib.hid hBL
  obtain ⟨NX, hNX⟩ : ∃ x, x = nextP l i := ⟨_, rfl⟩
  have HNE2 := Lib.hid hNX
  have HNX : Hid (NX = if BL = true then ST + 1 else ST) := by
    show _ = _
    rw [hNX]
    unfold nextP
    rw [hST, hBL]
  obtain ⟨KD, hKD⟩ : ∃ x, (if BL = true then declsS (kidsAt l ST) else []) = x := ⟨_, rfl⟩
  have HKD := Lib.hid hKD
  have HRP : Hid (ruleP l i = ⟨AW, PR, BL, KD⟩) := by
    show _ = _
    unfold ruleP
    rw [hAT, hST, hBL, hBG, hKD, hSG, hPR, hAW]
  have HZS := Lib.hid hzs
  have HPR := Lib.hid hPR
  have HXT := Lib.hid (hx _ (List.getElem_mem hi))
  have HAW2 : Hid (AW = if AT = true then lowS (l[i]).tok.text else ⟨#[]⟩) := by
    show _ = _
    rw [hAW, tokAt_lt hi]
    rfl
  have HFF := Lib.hid hF
  have HZ := Lib.hid hz
  have HLL := Lib.hid hN
  obtain ⟨g, off, c, hv2, hlc, hgb, hbl, g1⟩ := h.rd.base (by omega)
  subst hv2
  obtain ⟨u, hat, hku⟩ := g1 i hi
  have p1 := hat.c1
  have G1 := Lib.hid g1
  have HQ := Lib.hid (fun (j : Nat) (W : World) (hW : WN P w b (.slice (some ⟨g, off, none⟩) l.length c) l j W) => (hW.gw.cellAt (p := ⟨g, off + i * 7 + 1, none⟩) hbl (h.ne _ hgb)).trans p1)
  generalize (l[i]).tok.text = tx at *
  have hxt := HXT.out
  have hi0 : (0 : Int) ≤ (i : Int) := by omega
  have hi1 : (i : Int) < (l.length : Int) := by omega
  clear hx hxk hz hll hku hat p1 g1 hAT hF hBG hST hst2 hAW hSG hzs hPR hBL hNX hKD HXT hP h
  go_enter Tryz.func28, Tryz.ntmps28
  go_upto_region 2 with fail
  generalize ((w.alloc (.cells #[.string ⟨#[]⟩, .slice none 0 0, .bool false, .slice none 0 0] 45)).alloc (.cells #[.string ⟨#[]⟩, .slice none 0 0, .bool false, .slice none 0 0] 45)) = W1 at *
  go_upto_if 9 with (go_at_call 40; (with_reducible refine (HAW.out i _ _ HO.out.here).mono ?_); rintro e w1 ⟨rfl, h1⟩; rw [HAT.out]; have HO1 := Lib.hid (HO.out.go h1))
  go_cut [5] from 10 to 30 (fun fv wx => fv = .func (.func F) #[] #[] ∧ RuO P w b (.slice (some ⟨g, off, none⟩) l.length c) l BG AW (.slice none 0 0) false (.slice none 0 0) wx)
  case first =>
    cases AT
    · have HA : Hid (AW = ⟨#[]⟩) := HAW2.out
      have HB : Hid (BG = i) := HBG.out
      have HF : Hid (F = 55) := HFF.out
      go_wp2
      go_meet
      exact ⟨by rw [HF.out], by rw [HA.out, HB.out]; exact HO1.out⟩
    · have HA : Hid (AW = lowS tx) := HAW2.out
      have HB : Hid (BG = i + 1) := HBG.out
      have HF : Hid (F = 57) := HFF.out
      have c0 := HO1.out.wn.wk.c0
      have c1 := HO1.out.wn.wk.c1
      have q1 := HQ.out _ _ HO1.out.wn
      have hbw := HO1.out.wn.wk.lt
      have hgw : g < w1.heap.size := by have := HO1.out.lt; omega
      have hgn : g ≠ w.heap.size + 1 := by omega
      have hbn : b ≠ w.heap.size + 1 := by omega
      go_upto_region 3 with fail
      go_region_held3 (fun w' => w'.cell? ⟨b, 0, none⟩ = some (.slice (some ⟨g, off, none⟩) l.length c) ∧ w'.cell? ⟨b, 1, none⟩ = some (.int .i64 (i : Int)) ∧ w'.cell? ⟨g, off + i * 7 + 1, none⟩ = some (.string tx)) (first | go_keep | exact ⟨(hb5.cell (p := ⟨b, 0, none⟩) hbw).trans c0, (hb5.cell (p := ⟨b, 1, none⟩) hbw).trans c1, (hb5.cell (p := ⟨g, off + i * 7 + 1, none⟩) hgw).trans q1⟩ | exact ⟨far0 ((hb5.cell (p := ⟨b, 0, none⟩) hbw).trans c0) (by first | (simp; done) | (simp; omega)), far0 ((hb5.cell (p := ⟨b, 1, none⟩) hbw).trans c1) (by first | (simp; done) | (simp; omega)), far0 ((hb5.cell (p := ⟨g, off + i * 7 + 1, none⟩) hgw).trans q1) (by first | (simp; done) | (simp; omega))⟩) ((go_at_call 56; refine (lower_any _ _ hxt).mono ?_; rintro e w5 ⟨rfl, hb5⟩; have HO5 := Lib.hid (HO1.out.drew.below hb5); have r5 : w5.cell? ⟨w.heap.size + 1, 0, none⟩ = some (.string ⟨#[]⟩) := HO5.out.c1.cell 0; have f5 : w5.frozen? ⟨w.heap.size + 1, 0, none⟩ = false := HO5.out.c1.frozen 0))
      have HO6 := Lib.hid (HO5.out.set0 (lowS tx))
      generalize (w5.setCell ⟨w.heap.size + 1, 0, none⟩ (.string (lowS tx))) = w6 at *
      have c6 := HO6.out.wn.wk.c1
      have f6 := HO6.out.wn.wk.f1
      go_wp2
      go_meet
      refine ⟨by rw [HF.out], ?_⟩
      rw [HA.out, HB.out]
      exact by simpa using HO6.out.put (i + 1) HI.out
  case rest =>
    obtain ⟨rfl, hO2⟩ := hcut
    obtain ⟨w2, rfl⟩ : ∃ w2 : World, w2 = wc := ⟨_, rfl⟩
    have HO2 := Lib.hid hO2
    clear hO2 HO1
    go_upto_if 38 with (first | (go_at_call 44; (with_reducible refine (HU.out _ _ HO2.out.here).mono ?_); rintro e w3 ⟨⟨u3, rfl, hu3⟩, h3⟩; have HO3 := Lib.hid (HO2.out.go h3); have HU3 := Lib.hid (HO2.out.rdn h3 (hu3.weak (Q := RuQ P w) fun _ _ h => Or.inl h))) | (go_at_call 37; refine (trim_any HU3.out HZS.out).mono ?_; rintro e w4 ⟨⟨u4, rfl, hu4⟩, hb4⟩; rw [HPR.out] at hu4; have HO4 := Lib.hid (HO3.out.below hb4); have HV4 := Lib.hid (hu4.weak (Q := RuQ P w) fun q _ h => h.elim id fun h => Or.inr (by have := HO3.out.lt; omega)); obtain ⟨pa, pc, hus, _⟩ := hu4.shape; subst hus; have HO5 := Lib.hid (HO4.out.set1 (.slice pa PR.length pc)); have HV5 := Lib.hid (rdn_set HP.out HV4.out 1 (.slice pa PR.length pc)); have r4 : w4.cell? ⟨w.heap.size + 1, 1, none⟩ = some (.slice none 0 0) := HO4.out.c1.cell 1; have f4 : w4.frozen? ⟨w.heap.size + 1, 1, none⟩ = false := HO4.out.c1.frozen 1) | (go_at_call 40; (with_reducible refine (HBK.out ST _ _ HO5.out.here).mono ?_); rintro e w6 ⟨rfl, h6⟩; rw [HBL.out]; have HO6 := Lib.hid (HO5.out.go h6); have HV6 := Lib.hid (HO5.out.rdn h6 HV5.out)))
    go_cut [] from 39 to 59 (fun wx => ∃ da dc, RuO P w b (.slice (some ⟨g, off, none⟩) l.length c) l NX AW (.slice pa PR.length pc) BL (.slice da KD.length dc) wx ∧ RdN wx (RuQ P w) (.slice pa PR.length pc) PR ∧ RdD wx (RuQ P w) (.slice da KD.length dc) KD)
    case first =>
      cases BL
      · have HK0 : Hid (KD = []) := HKD.out.symm
        have HX : Hid (NX = ST) := HNX.out
        go_wp2
        go_meet
        refine ⟨none, 0, ?_, HV6.out, ?_⟩
        · rw [HK0.out, HX.out]; exact HO6.out
        · rw [HK0.out]; exact RdD.nil _ _
      · have hlt := atP_lt_of HBL.out
        have HX : Hid (NX = ST + 1) := HNX.out
        have HKK : Hid (KD = declsS (l[ST]).kids) := by
          show _ = _
          rw [← HKD.out, if_pos rfl]
          unfold kidsAt
          rw [List.getD_eq_getElem?_getD, List.getElem?_eq_getElem hlt]
          rfl
        obtain ⟨uk, hatk, hkk⟩ := G1.out ST hlt
        have hxk := HXK.out _ (List.getElem_mem hlt)
        have hzk := szL_at l ST hlt
        have HZK := Lib.hid (show szL (l[ST]).kids ≤ 100000000 by have := HZ.out; omega)
        have p6 := hatk.c6
        generalize (l[ST]).kids = kk at *
        have HXX := Lib.hid hxk
        have r6 : w6.cell? ⟨w.heap.size + 1, 2, none⟩ = some (.bool false) := HO6.out.c1.cell 2
        have f6 : w6.frozen? ⟨w.heap.size + 1, 2, none⟩ = false := HO6.out.c1.frozen 2
        have HO7 := Lib.hid (HO6.out.set2 true)
        have HV7 := Lib.hid (rdn_set HP.out HV6.out 2 (.bool true))
        clear hatk hxk hzk
        have HKR := Lib.hid (fun (W : World) (j : Nat) (hW : WN P w b (.slice (some ⟨g, off, none⟩) l.length c) l j W) => hkk.move (w' := W) (fun k hk hl => hW.gw.block k hl (fun e => HNE.out k hk (Option.some.inj e))) hW.gw.size)
        have HKC := Lib.hid (fun (W : World) (j : Nat) (hW : WN P w b (.slice (some ⟨g, off, none⟩) l.length c) l j W) => (hW.gw.cellAt (p := ⟨g, off + ST * 7 + 6, none⟩) hbl (HNE.out _ hgb)).trans p6)
        clear hkk p6
        go_upto_region 10 with fail
        generalize (w6.setCell ⟨w.heap.size + 1, 2, none⟩ (.bool true)) = w7 at *
        have c0 := HO7.out.wn.wk.c0
        have c1 := HO7.out.wn.wk.c1
        have q1 := HKC.out _ _ HO7.out.wn
        have hk7 := HKR.out _ _ HO7.out.wn.drew
        have hi0 : (0 : Int) ≤ (ST : Int) := by omega
        have hi1 : (ST : Int) < (l.length : Int) := by omega
        have hbw := HO7.out.wn.wk.lt
        have hgw : g < w7.heap.size := by have := HO7.out.lt; omega
        go_region_held3 (fun w' => w'.cell? ⟨b, 0, none⟩ = some (.slice (some ⟨g, off, none⟩) l.length c) ∧ w'.cell? ⟨b, 1, none⟩ = some (.int .i64 (ST : Int)) ∧ w'.cell? ⟨g, off + ST * 7 + 6, none⟩ = some uk) (first | go_keep | exact ⟨(hb8.cell (p := ⟨b, 0, none⟩) hbw).trans c0, (hb8.cell (p := ⟨b, 1, none⟩) hbw).trans c1, (hb8.cell (p := ⟨g, off + ST * 7 + 6, none⟩) hgw).trans q1⟩ | exact ⟨far0 ((hb8.cell (p := ⟨b, 0, none⟩) hbw).trans c0) (by first | (simp; done) | (simp; omega)), far0 ((hb8.cell (p := ⟨b, 1, none⟩) hbw).trans c1) (by first | (simp; done) | (simp; omega)), far0 ((hb8.cell (p := ⟨g, off + ST * 7 + 6, none⟩) hgw).trans q1) (by first | (simp; done) | (simp; omega))⟩) ((go_at_call 17; refine (rdecls_any hk7 HZK.out HXX.out).mono ?_; rintro e w8 ⟨⟨u8, rfl, hu8⟩, hb8⟩; have HO8 := Lib.hid (HO7.out.drew.below hb8); have HV8 := Lib.hid ((HV7.out.drewN 1).under hb8 (Nat.le_refl _)); have r8 : w8.cell? ⟨w.heap.size + 1, 3, none⟩ = some (.slice none 0 0) := HO8.out.c1.cell 3; have f8 : w8.frozen? ⟨w.heap.size + 1, 3, none⟩ = false := HO8.out.c1.frozen 3; have HD8 := Lib.hid (hu8.weak (Q := RuQ P w) fun q _ h => h.elim Or.inl fun h => Or.inr (by have := HO7.out.lt; have h2 : w7.heap.size ≤ q := h; omega)); obtain ⟨da, dc, hus⟩ := hu8.sl; subst hus))
        rw [← HKK.out] at HD8 ⊢
        have HO9 := Lib.hid (HO8.out.set3 (.slice da KD.length dc))
        have HV9 := Lib.hid (rdn_set HP.out HV8.out 3 (.slice da KD.length dc))
        have HD9 := Lib.hid (rdd_set HP.out HD8.out 3 (.slice da KD.length dc))
        generalize (w8.setCell ⟨w.heap.size + 1, 3, none⟩ (.slice da KD.length dc)) = w9 at *
        have c9 := HO9.out.wn.wk.c1
        have f9 := HO9.out.wn.wk.f1
        go_wp2
        go_meet
        refine ⟨da, dc, ?_, ?_, ?_⟩
        · rw [HX.out]
          exact by simpa using HO9.out.put (ST + 1) hlt
        · exact by simpa using rdn_box hold HNE.out HV9.out 1 (.int .i64 ((ST + 1 : Nat) : Int))
        · exact by simpa using rdd_box hold HNE.out HD9.out 1 (.int .i64 ((ST + 1 : Nat) : Int))
    case rest =>
      obtain ⟨da, dc, hO10, hv10, hd10⟩ := hcut
      obtain ⟨w10, rfl⟩ : ∃ w10 : World, w10 = wc := ⟨_, rfl⟩
      have HO10 := Lib.hid hO10
      have HV10 := Lib.hid hv10
      have HD10 := Lib.hid hd10
      clear hO10 hv10 hd10 HO5 HV5 HO6 HV6 HO2
      have y0 : w10.cell? ⟨w.heap.size + 1, 0, none⟩ = some (.string AW) := HO10.out.c1.cell 0
      have y1 : w10.cell? ⟨w.heap.size + 1, 1, none⟩ = some (.slice pa PR.length pc) := HO10.out.c1.cell 1
      have y2 : w10.cell? ⟨w.heap.size + 1, 2, none⟩ = some (.bool BL) := HO10.out.c1.cell 2
      have y3 : w10.cell? ⟨w.heap.size + 1, 3, none⟩ = some (.slice da KD.length dc) := HO10.out.c1.cell 3
      have z0 : w10.cell? ⟨w.heap.size, 0, none⟩ = some (.string ⟨#[]⟩) := HO10.out.c0.cell 0
      have z1 : w10.cell? ⟨w.heap.size, 1, none⟩ = some (.slice none 0 0) := HO10.out.c0.cell 1
      have z2 : w10.cell? ⟨w.heap.size, 2, none⟩ = some (.bool false) := HO10.out.c0.cell 2
      have z3 : w10.cell? ⟨w.heap.size, 3, none⟩ = some (.slice none 0 0) := HO10.out.c0.cell 3
      have k0 : w10.frozen? ⟨w.heap.size, 0, none⟩ = false := HO10.out.c0.frozen 0
      have k1 : w10.frozen? ⟨w.heap.size, 1, none⟩ = false := HO10.out.c0.frozen 1
      have k2 : w10.frozen? ⟨w.heap.size, 2, none⟩ = false := HO10.out.c0.frozen 2
      have k3 : w10.frozen? ⟨w.heap.size, 3, none⟩ = false := HO10.out.c0.frozen 3
      cases BL
      · go_upto_region 12 with fail
        go_region
        all_goals go_wp2
        all_goals refine bodyPost_ret (v := .tuple #[.agg #[.string AW, .slice pa PR.length pc, .bool false, .slice da KD.length dc], .bool (!AW.toList.isEmpty)]) (results_cellZ (by rfl) _ _ w.heap.size _ _ _ _ _ (by rfl) (by rfl) (HO10.out.all _ _ _ _) Tryz.underlying45 (by rfl) rule_size) rfl ?_
        all_goals exact rule_fin pa pc da dc HRP.out (HNE2.out ▸ HO10.out) HV10.out HD10.out HP.out _ _ _ _
      · go_upto_region 12 with fail
        go_region
        all_goals go_wp2
        all_goals refine bodyPost_ret (v := .tuple #[.agg #[.string AW, .slice pa PR.length pc, .bool true, .slice da KD.length dc], .bool true]) (results_cellZ (by rfl) _ _ w.heap.size _ _ _ _ _ (by rfl) (by rfl) (HO10.out.all _ _ _ _) Tryz.underlying45 (by rfl) rule_size) rfl ?_
        all_goals exact rule_fin pa pc da dc HRP.out (HNE2.out ▸ HO10.out) HV10.out HD10.out HP.out _ _ _ _
end Go.Proofs.YtfggpenfdfklkaaGreat
