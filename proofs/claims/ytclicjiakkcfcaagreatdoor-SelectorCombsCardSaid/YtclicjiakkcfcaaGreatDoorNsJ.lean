import Derived.Test.YtclicjiakkcfcaaGreatDoorNsE
import Derived.Test.YtclicjiakkcfcaaGreatDoorNsP
import Derived.Deep.AppendLies
import Derived.Deep.LoopGhost
import Derived.Deep.Cut
import Derived.Deep.CutRange
import Derived.Deep.DeepCutAuto
set_option maxRecDepth 100000
set_option maxHeartbeats 6400000
namespace Go.Proofs.YtclicjiakkcfcaaGreatDoor
open Go.RowKit
def RowN (Q : Nat → Prop) (B : Nat) (w : World) (v : Value) (l : List Nd) : Prop := ∃ fs, RowF B w v fs ∧ FlN w (fun b => Q b ∧ v.ownBlock ≠ some b) fs l
section
variable {Q : Nat → Prop} {B : Nat} {w w1 W : World} {v : Value} {l : List Nd}
theorem RowN.nil (Q : Nat → Prop) (B : Nat) (w : World) : RowN Q B w (.slice none 0 0) [] := ⟨[], RowF.nil B w, .nil⟩
theorem RowN.sl (h : RowN Q B w v l) : ∃ a c, v = .slice a l.length c := by
 obtain ⟨fs, h1, h2⟩ := h
 obtain ⟨a, n, c, rfl⟩ := h1.sl
 have := RowF.slen h1
 rw [h2.len] at this
 subst this
 exact ⟨a, c, rfl⟩
theorem RowN.gone {row : Option Nat} (h : RowN Q B w v l) (hg : w.grownBy w1 row) (hr : ∀ b, row = some b → b < B ∧ ¬ Q b) : RowN Q B w1 v l := by
 obtain ⟨fs, h1, h2⟩ := h
 refine ⟨fs, h1.kept hg fun g hv e => by have := (h1.block g hv).1; have := (hr g e).1; omega, h2.move (fun b hb hl => hg.block b hl fun e => (hr b e.symm).2 hb.1) hg.size⟩
theorem RowN.below (h : RowN Q B w v l) (hb : Below w.heap.size w w1) : RowN Q B w1 v l := h.gone (row := none) (gb_below hb none) (by intro b h; simp at h)
theorem RowN.block (h : RowN Q B w v l) : ∀ k, v.ownBlock = some k → B ≤ k ∧ k < w.heap.size := by
 obtain ⟨fs, h1, _⟩ := h
 exact h1.block
theorem RowN.rd (h : RowN Q B w v l) : RdN w (fun b => Q b ∨ B ≤ b) v l := by
 obtain ⟨fs, h1, h2⟩ := h
 exact h1.rd (h2.weak fun b _ hb => .inl hb.1) fun b hb => .inr (h1.block b hb).1
theorem RowN.push {g cap n : Nat} {fs : List Fl} {t : Tok} {u : Value} {k : List Nd} (_h1 : RowF B W v fs) (h2 : FlN W (fun b => Q b ∧ v.ownBlock ≠ some b) fs l) (hn : fs.length = n)
    (hown : w1.ownsRow B 96 7 (.slice (some ⟨g, 0, none⟩) (n + 1) cap) (n + 1) (fs.flatMap ncells ++ ncells (t, u))) (hgrow : W.grownBy w1 v.ownBlock) (hat : v.ownBlock = some g ∨ g = W.heap.size)
    (hu : RdN W (fun b => Q b ∧ v.ownBlock ≠ some b) u k) : RowN Q B w1 (.slice (some ⟨g, 0, none⟩) (n + 1) cap) (l ++ [.mk t k]) := by
  refine ⟨fs ++ [(t, u)], ?_, ?_⟩
  · unfold RowF
    rw [List.length_append, List.length_singleton, hn, List.flatMap_append]
    simpa using hown
  · have hb : ∀ b, (Q b ∧ v.ownBlock ≠ some b) → b < W.heap.size → w1.heap[b]? = W.heap[b]? := fun b hb hl => hgrow.block b hl fun e => hb.2 e.symm
    have hw : ∀ b, b < W.heap.size → (Q b ∧ v.ownBlock ≠ some b) → Q b ∧ (Value.slice (some ⟨g, 0, none⟩) (n + 1) cap).ownBlock ≠ some b := fun b hl hb => ⟨hb.1, fun e => by
     have e2 : g = b := by simpa [Value.ownBlock] using e
     subst e2
     rcases hat with hat | hat
     · exact hb.2 hat
     · omega⟩
    refine FlN.snoc ?_ ?_
    · exact ((h2.weak (Q := fun b => (Q b ∧ v.ownBlock ≠ some b) ∧ b < W.heap.size) fun b hl hb => ⟨hb, hl⟩).move (fun b hb _ => hgrow.block b hb.2 fun e => hb.1.2 e.symm) hgrow.size).weak fun b _ hb2 => hw b hb2.2 hb2.1
    · exact ((hu.weak (Q := fun b => (Q b ∧ v.ownBlock ≠ some b) ∧ b < W.heap.size) fun b hl hb => ⟨hb, hl⟩).move (fun b hb _ => hgrow.block b hb.2 fun e => hb.1.2 e.symm) hgrow.size).weak fun b _ hb2 => hw b hb2.2 hb2.1
end
theorem cell_seven_new (w : World) (t : Tok) (u : Value) (T : TypeId) : ∀ j x, (ncells (t, u))[j]? = some x → (w.alloc (.cells #[.int .i64 t.kind, .string t.text, .int .i64 t.int, .bool t.whole, .bool t.sign, .bool t.id, u] T)).cell? ((⟨w.heap.size, 0, none⟩ : Addr).add j) = some x :=
 World.news_of_block (cs := #[.int .i64 t.kind, .string t.text, .int .i64 t.int, .bool t.whole, .bool t.sign, .bool t.id, u]) (heap_alloc_self _ _)
def NodesPost (w : World) (l : List Nd) (e : Ending) (w' : World) : Prop := (∃ v, e = .returned v ∧ RdN w' (fun b => w.heap.size ≤ b) v l) ∧ Below w.heap.size w w'
structure AllI (w : World) (ts : List Tok) (p : Nat) (wr : World) (av : Value) (l : List Nd) : Prop where
  le : p ≤ ts.length
  row : RowN (fun b => w.heap.size ≤ b) w.heap.size wr av l
  len : l.length ≤ p
  run : l ++ ndsS (ts.drop p) = ndsS ts
  bel : Below w.heap.size w wr
theorem info_nodes : (Tryz.prog.info? 30).map (fun i => (i.zero, i.size, i.bytes)) = some (some (.slice none 0 0), 1, 24) := by kernel_rfl
def Thaw (B : Nat) (w : World) (v : Value) : Prop := ∀ g, v.ownBlock = some g → B ≤ g ∧ g < w.heap.size ∧ ∀ j, w.frozen? ⟨g, j, none⟩ = false
theorem Thaw.of_row {B : Nat} {w : World} {v : Value} {fs : List Fl} (h : RowF B w v fs) : Thaw B w v := by
 intro g hg
 have hb := h.block g hg
 refine ⟨hb.1, hb.2, fun j => ?_⟩
 obtain ⟨a, n, c, rfl⟩ := h.sl
 have hl := RowF.slen h
 unfold RowF at h
 rcases h.2 with ⟨h1, _⟩ | ⟨g', cap, cur, hv, _, hc, _⟩
 · injection h1 with h1 _ _; subst h1; simp [Value.ownBlock] at hg
 · rw [hv] at hg
   have : g' = g := by simpa [Value.ownBlock] using hg
   subst this
   simp [World.frozen?, hc]
theorem Thaw.grown {B : Nat} {w w1 : World} {v : Value} {row : Option Nat} (h : Thaw B w v) (hg : w.grownBy w1 row) (hr : ∀ g, v.ownBlock = some g → row ≠ some g) : Thaw B w1 v := fun g hv => by
 obtain ⟨h1, h2, h3⟩ := h g hv
 exact ⟨h1, Nat.lt_of_lt_of_le h2 hg.size, fun j => (hg.frozen_far ⟨g, j, none⟩ h2 (fun e => hr g hv e.symm)).trans (h3 j)⟩
theorem Thaw.set {B : Nat} {w : World} {v x : Value} {p : Addr} (h : Thaw B w v) : Thaw B (w.setCell p x) v := fun g hv => by
 obtain ⟨h1, h2, h3⟩ := h g hv
 exact ⟨h1, by simpa [World.setCell] using h2, fun j => by rw [World.frozen?_setCell]; exact h3 j⟩
abbrev Ls := List (Value × List Nd)
def szS : Ls → Nat
  | [] => 0
  | x :: s => szL x.2 + 1 + szS s
theorem szS_append : ∀ a b : Ls, szS (a ++ b) = szS a + szS b
  | [], b => by simp [szS]
  | x :: a, b => by rw [List.cons_append, szS, szS, szS_append a b]; omega
structure CopyI (Q : Nat → Prop) (B : Nat) (w0 w : World) (ov : Value) (ks : Ls) (av : Value) (l : List Nd) : Prop where
  row : w.ownsRow B 30 1 ov ks.length (ks.map Prod.fst)
  rd : ∀ x ∈ ks, RdN w (fun b => ov.ownBlock ≠ some b ∧ Q b) x.1 x.2
  thaw : ∀ x ∈ ks, Thaw B w x.1
  all : RdN w (fun b => ov.ownBlock ≠ some b ∧ Q b) av l
  bel : Below B w0 w
  base : B ≤ w.heap.size
  dis : ∀ x ∈ ks, ∀ b, x.1.ownBlock = some b → ov.ownBlock ≠ some b
section
variable {Q : Nat → Prop} {B : Nat} {w0 w w1 : World} {ov av : Value} {ks : Ls} {l : List Nd}
theorem CopyI.sl (h : CopyI Q B w0 w ov ks av l) : ∃ a c, ov = .slice a ks.length c ∧ ks.length ≤ c ∧ (0 < ks.length → ∃ g, a = some ⟨g, 0, none⟩ ∧ B ≤ g ∧ g < w.heap.size) := by
 rcases h.row.2 with ⟨h1, h0⟩ | ⟨g, cap, cur, hv, hb, hc, hn, _⟩
 · exact ⟨none, 0, by rw [h1, h0], by omega, fun hp => by omega⟩
 · exact ⟨_, _, hv, hn, fun _ => ⟨g, rfl, hb, (Array.getElem?_eq_some_iff.1 hc).1⟩⟩
theorem CopyI.below (h : CopyI Q B w0 w ov ks av l) (hb : Below w.heap.size w w1) : CopyI Q B w0 w1 ov ks av l := by
 have hm : ∀ b, (ov.ownBlock ≠ some b ∧ Q b) → b < w.heap.size → w1.heap[b]? = w.heap[b]? := fun b _ hl => hb.block b hl
 exact ⟨h.row.kept (gb_below hb none) (by cases hv : ov.ownBlock with | none => exact .inl rfl | some g => exact .inr (by simp)), fun x hx => (h.rd x hx).move hm hb.size, fun x hx => (h.thaw x hx).grown (gb_below hb none) (by simp), h.all.move hm hb.size,
   h.bel.trans (hb.mono h.base), Nat.le_trans h.base hb.size, h.dis⟩
theorem CopyI.cut {a : Option Addr} {n c : Nat} {x : Value × List Nd} (h : CopyI Q B w0 w (.slice a n c) (ks ++ [x]) av l) :
    CopyI Q B w0 w (.slice a ks.length c) ks av l ∧ RdN w (fun b => (Value.slice a ks.length c).ownBlock ≠ some b ∧ Q b) x.1 x.2 ∧ Thaw B w x.1 ∧ ∀ b, x.1.ownBlock = some b → (Value.slice a ks.length c).ownBlock ≠ some b := by
  have hob : (Value.slice a ks.length c).ownBlock = (Value.slice a n c).ownBlock := by cases a <;> rfl
  have hmem : x ∈ ks ++ [x] := by simp
  refine ⟨⟨?_, fun y hy => ?_, fun y hy => h.thaw y (List.mem_append_left _ hy), ?_, h.bel, h.base, fun y hy b hb => by rw [hob]; exact h.dis y (List.mem_append_left _ hy) b hb⟩, ?_, h.thaw x hmem, fun b hb => by rw [hob]; exact h.dis x hmem b hb⟩
  · obtain ⟨h1, h2⟩ := h.row
    refine ⟨by simp, ?_⟩
    rcases h2 with ⟨_, h0⟩ | ⟨g, cap, cur, hv, hb, hg, hn, hm, hs, ht⟩
    · simp at h0
    · injection hv with e1 _ e3
      subst e1 e3
      refine .inr ⟨g, c, cur, rfl, hb, hg, by simp at hn; omega, hm, hs, ?_⟩
      have h3 := congrArg (List.take ks.length) ht
      rw [List.take_take, List.map_append, List.take_left' (by simp), Nat.min_eq_left (by simp)] at h3
      rw [Nat.mul_one]
      exact h3
  · have := h.rd y (List.mem_append_left _ hy); rw [hob]; exact this
  · have := h.all; rw [hob]; exact this
  · have := h.rd x hmem; rw [hob]; exact this
theorem push_far {g cap n : Nat} {z : Value} {q : List Nd} (hg : w.grownBy w1 ov.ownBlock) (hat : ov.ownBlock = some g ∨ g = w.heap.size) (hz : RdN w (fun b => ov.ownBlock ≠ some b ∧ Q b) z q) (ht : Thaw B w z) (hd : ∀ b, z.ownBlock = some b → ov.ownBlock ≠ some b) :
    RdN w1 (fun b => (Value.slice (some ⟨g, 0, none⟩) (n + 1) cap).ownBlock ≠ some b ∧ Q b) z q ∧ Thaw B w1 z ∧ ∀ b, z.ownBlock = some b → (Value.slice (some ⟨g, 0, none⟩) (n + 1) cap).ownBlock ≠ some b := by
  refine ⟨?_, ht.grown hg fun b hb e => hd b hb e, fun b hb e => ?_⟩
  · exact ((hz.weak (Q := fun b => (ov.ownBlock ≠ some b ∧ Q b) ∧ b < w.heap.size) fun b hl hb => ⟨hb, hl⟩).move (fun b hb _ => hg.block b hb.2 fun e => hb.1.1 e.symm) hg.size).weak fun b _ hb => ⟨fun e => by
     have e2 : g = b := by simpa [Value.ownBlock] using e
     subst e2
     rcases hat with hat | hat
     · exact hb.1.1 hat
     · omega, hb.1.2⟩
  · have e2 : g = b := by simpa [Value.ownBlock] using e
    subst e2
    rcases hat with hat | hat
    · exact hd g hb hat
    · have := (ht g hb).2.1; omega
theorem CopyI.push {g cap n : Nat} {x : Value} {k : List Nd} (h : CopyI Q B w0 w ov ks av l) (hn : ks.length = n) (hown : w1.ownsRow B 30 1 (.slice (some ⟨g, 0, none⟩) (n + 1) cap) (n + 1) (ks.map Prod.fst ++ [x]))
    (hg : w.grownBy w1 ov.ownBlock) (hat : ov.ownBlock = some g ∨ g = w.heap.size) (hx : RdN w (fun b => ov.ownBlock ≠ some b ∧ Q b) x k) (ht : Thaw B w x) (hxo : ∀ b, x.ownBlock = some b → ov.ownBlock ≠ some b) :
    CopyI Q B w0 w1 (.slice (some ⟨g, 0, none⟩) (n + 1) cap) (ks ++ [(x, k)]) av l := by
  have hw : ∀ {v : Value} {q : List Nd}, RdN w (fun b => ov.ownBlock ≠ some b ∧ Q b) v q → RdN w1 (fun b => (Value.slice (some ⟨g, 0, none⟩) (n + 1) cap).ownBlock ≠ some b ∧ Q b) v q := fun {v q} hv =>
   ((hv.weak (Q := fun b => (ov.ownBlock ≠ some b ∧ Q b) ∧ b < w.heap.size) fun b hl hb => ⟨hb, hl⟩).move (fun b hb _ => hg.block b hb.2 fun e => hb.1.1 e.symm) hg.size).weak fun b _ hb => ⟨fun e => by
    have e2 : g = b := by simpa [Value.ownBlock] using e
    subst e2
    rcases hat with hat | hat
    · exact hb.1.1 hat
    · omega, hb.1.2⟩
  have hks := h.dis
  have hfar : ∀ {z : Value}, Thaw B w z → (∀ b, z.ownBlock = some b → ov.ownBlock ≠ some b) → ∀ b, z.ownBlock = some b → (Value.slice (some ⟨g, 0, none⟩) (n + 1) cap).ownBlock ≠ some b := fun {z} hz hd b hb e => by
   have e2 : g = b := by simpa [Value.ownBlock] using e
   subst e2
   rcases hat with hat | hat
   · exact hd g hb hat
   · have := (hz g hb).2.1; omega
  refine ⟨?_, fun y hy => ?_, fun y hy => ?_, hw h.all, ?_, Nat.le_trans h.base hg.size, fun y hy => ?_⟩
  · rw [List.length_append, List.map_append, hn]; exact hown
  · rw [List.mem_append] at hy
    rcases hy with hy | hy
    · exact hw (h.rd y hy)
    · simp at hy; subst hy; exact hw hx
  · rw [List.mem_append] at hy
    rcases hy with hy | hy
    · exact (h.thaw y hy).grown hg fun b hb e => hks y hy b hb e
    · simp at hy; subst hy; exact ht.grown hg fun b hb e => hxo b hb e
  · exact h.bel.trans ⟨hg.os, hg.tape, hg.output, hg.size, fun i hi => hg.block i (Nat.lt_of_lt_of_le hi h.base) fun e => by have := (World.ownsRow.lt h.row i e.symm).1; omega⟩
  · rw [List.mem_append] at hy
    rcases hy with hy | hy
    · exact hfar (h.thaw y hy) (h.dis y hy)
    · simp at hy; subst hy; exact hfar ht hxo
theorem CopyI.set {p : Addr} {v v' : Value} {k : List Nd} {R : Nat → Prop} (h : CopyI Q B w0 w ov ks av l) (hc : w.cell? p = some v) (hk : RdN w R v k) (hk' : RdN w (fun b => ov.ownBlock ≠ some b ∧ Q b) v' k) (hp : B ≤ p.block) (hpo : ov.ownBlock ≠ some p.block) :
    CopyI Q B w0 (w.setCell p v') ov ks av l := by
  have hr : ∀ {X : Value} {q : List Nd}, RdN w (fun b => ov.ownBlock ≠ some b ∧ Q b) X q → RdN (w.setCell p v') (fun b => ov.ownBlock ≠ some b ∧ Q b) X q := fun {X q} hX => RdN.alike hc hk hk' _ q X (Nat.le_refl _) hX
  have hg : w.grownBy (w.setCell p v') (some p.block) := gb_set (gb_below (Below.refl _ w) _) (.inl rfl) v'
  exact ⟨h.row.kept hg (.inr hpo), fun x hx => hr (h.rd x hx), fun x hx => (h.thaw x hx).set, hr h.all, h.bel.setCell hp v', by simpa [World.setCell] using h.base, h.dis⟩
end
theorem szS_len : ∀ s : Ls, s.length ≤ szS s
  | [] => Nat.le_refl _
  | x :: s => by have := szS_len s; rw [szS, List.length_cons]; omega
theorem szL_drop (l : List Nd) (k : Nat) (h : k < l.length) : szL (l.drop k) = szN (l[k]) + szL (l.drop (k + 1)) := by rw [List.drop_eq_getElem_cons h, szL]
theorem copy_any {l : List Nd} {v : Value} {w : World} {P : Nat → Prop} (h : RdN w P v l) (hl : szL l ≤ 100000000) :
    Calls Tryz.prog 36 #[v] w fun e w' => (∃ v', e = .returned v' ∧ RdN w' (fun b => P b ∨ w.heap.size ≤ b) v' l) ∧ Below w.heap.size w w' := by
  obtain ⟨i0, hi, hz0, hz1, hz2⟩ := info_parts info_nodes
  have hll := szL_ge l
  go_enter Tryz.func36, Tryz.ntmps36
  go_upto_region 3 with (go_at_call 59; refine (own_any h (by omega)).mono ?_; rintro e w1 ⟨⟨av, fs, rfl, hf, hr⟩, hb1⟩; obtain ⟨aa, an, ac, hav⟩ := hr.sl; subst hav)
  have hown1 := World.ownsRow_lit (base := w.heap.size) (e := 30) (size := 1) w1 #[.slice aa an ac] 1 hb1.size (by unfold maxLen; omega) rfl
  have hrd1 : RdN w1 (fun b => b < w1.heap.size ∧ (P b ∨ w.heap.size ≤ b)) (.slice aa an ac) l := by
   refine (hr.rd (P := fun b => (P b ∧ b < w.heap.size) ∨ (w.heap.size ≤ b ∧ b < w1.heap.size)) ?_ fun b hb => .inr (hr.block b hb)).weak fun b hbl hb => by
    rcases hb with hb | hb
    · exact ⟨hbl, .inl hb.1⟩
    · exact ⟨hbl, .inr hb.1⟩
   exact ((hf.weak (Q := fun b => P b ∧ b < w.heap.size) fun b hl hb => ⟨hb, hl⟩).move (fun b hb _ => hb1.block b hb.2) hb1.size).weak fun b _ hb => .inl hb
  have hC0 : CopyI (fun b => P b ∨ w.heap.size ≤ b) w.heap.size w (w1.alloc (.cells #[.slice aa an ac] 30)) (.slice (some ⟨w1.heap.size, 0, none⟩) 1 1) [(.slice aa an ac, l)] (.slice aa an ac) l := by
   have hm : RdN (w1.alloc (.cells #[.slice aa an ac] 30)) (fun b => (Value.slice (some ⟨w1.heap.size, 0, none⟩) 1 1).ownBlock ≠ some b ∧ (P b ∨ w.heap.size ≤ b)) (.slice aa an ac) l :=
    (hrd1.under ((Below.refl _ _).alloc (Nat.le_refl _) _) (Nat.le_refl _)).weak fun b _ hb => ⟨fun e => by
     have : w1.heap.size = b := by simpa [Value.ownBlock] using e
     omega, hb.2⟩
   have ht : Thaw w.heap.size (w1.alloc (.cells #[.slice aa an ac] 30)) (.slice aa an ac) := (Thaw.of_row hr).grown (World.grownBy_alloc _ _ none) (by simp)
   refine ⟨hown1, fun x hx => ?_, fun x hx => ?_, hm, hb1.alloc hb1.size _, by have := hb1.size; simp; omega, fun x hx b hb e => ?_⟩
   · simp at hx; subst hx; exact hm
   · simp at hx; subst hx; exact ht
   · simp at hx; subst hx
     have e2 : w1.heap.size = b := by simpa [Value.ownBlock] using e
     have := (hr.block b hb).2
     omega
  have HC0 := Lib.hid hC0
  clear hC0 hrd1 hown1 hf hr h hb1
  go_loopg [4] (szL l + 1) (fun k ov wr => ∃ ks, k = szS ks ∧ szS ks ≤ szL l + 1 ∧ CopyI (fun b => P b ∨ w.heap.size ≤ b) w.heap.size w wr ov ks (.slice aa an ac) l)
  case atStart => exact ⟨[(.slice aa an ac, l)], by simp [szS], by simp [szS], HC0.out⟩
  case round =>
   obtain ⟨ks, hgk, hgb, hI⟩ := hrel
   clear HC0
   rcases List.eq_nil_or_concat ks with rfl | ⟨ks', x, rfl⟩
   · obtain ⟨oa, oc, rfl, _, _⟩ := hI.sl
     have HI := Lib.hid hI
     clear hI
     go_wp2
     go_ret
     exact ⟨⟨_, rfl, HI.out.all.weak fun _ _ hb => hb.2⟩, HI.out.bel⟩
   · rw [List.concat_eq_append] at *
     obtain ⟨oa, oc, rfl, hocap, hoa⟩ := hI.sl
     obtain ⟨g, rfl, hBg, hgl⟩ := hoa (by simp)
     obtain ⟨xv, xk⟩ := x
     obtain ⟨n, hn⟩ : ∃ n, ks'.length = n := ⟨_, rfl⟩
     rw [show (ks' ++ [(xv, xk)]).length = n + 1 by simp [hn]] at *
     have hcx : wr.cell? ⟨g, n, none⟩ = some xv := by
      have h1 := hI.row
      rw [show (ks' ++ [(xv, xk)]).length = n + 1 by simp [hn]] at h1
      rw [h1.cellAt n (by omega)]
      simp [hn]
     obtain ⟨hI2, hx1, hx2, hx3⟩ := hI.cut
     rw [hn] at hI2 hx1 hx3
     obtain ⟨xa, xc, hxv, hxc⟩ := hx1.shape
     simp only at hxv hx1 hx2 hx3
     subst hxv
     have HI2 := Lib.hid hI2
     have HX := Lib.hid (And.intro hx1 (And.intro hx2 hx3))
     have hnb : n ≤ 100000001 := by have h1 := szS_len (ks' ++ [(.slice xa xk.length xc, xk)]); rw [List.length_append] at h1; simp at h1; omega
     have HGK := Lib.hid (And.intro hgk hgb)
     clear hI hI2 hx1 hx2 hx3 hgk hgb hoa
     go_upto_region 7 with fail
     have HS0 := Lib.hid (show szS ks' + szL xk + 1 = gk by rw [HGK.out.1, szS_append]; simp [szS]; omega)
     go_loopg [4, 27] xk.length (fun k ov cv wr => ∃ (i : Nat) (ks2 : Ls), k = xk.length - i ∧ i ≤ xk.length ∧ cv = .int .i64 i ∧ szS ks2 + szL (xk.drop i) ≤ szS ks' + szL xk ∧ CopyI (fun b => P b ∨ w.heap.size ≤ b) w.heap.size w wr ov ks2 (.slice aa an ac) l ∧
       RdN wr (fun b => ov.ownBlock ≠ some b ∧ (P b ∨ w.heap.size ≤ b)) (.slice xa xk.length xc) xk ∧ Thaw w.heap.size wr (.slice xa xk.length xc) ∧ ∀ b, (Value.slice xa xk.length xc).ownBlock = some b → ov.ownBlock ≠ some b)
     case atStart => exact ⟨0, ks', rfl, Nat.zero_le _, rfl, Nat.le_refl _, HI2.out, HX.out⟩
     case round =>
      obtain ⟨i, ks2, hk2, hi2, rfl, hs2, hI3, hx1, hx2, hx3⟩ := hrel
      obtain ⟨oa2, oc2, hov2, hocap2, _⟩ := hI3.sl
      subst hov2
      clear hcx HI2 HX
      by_cases hlt : i < xk.length
      · obtain ⟨b, off, xc', u, hxe, _, _, hbl, hat, hku⟩ := hx1.at i hlt
        injection hxe with e1 _ e3
        subst e1 e3
        obtain ⟨ua, uc, hus, huc⟩ := hku.shape
        subst hus
        have hsz1 := szL_drop xk i hlt
        have hszn : szN xk[i] = 1 + szL (xk[i]).kids := by rw [Nd.eta xk[i], szN]; rfl
        have hql := szL_ge (xk[i]).kids
        have hil : xk.length ≤ 200000000 := by have := szL_ge xk; have := HGK.out.2; have := HGK.out.1; have := HS0.out; omega
        have hql2 : (xk[i]).kids.length ≤ 100000000 := by have := HGK.out.2; have := HGK.out.1; have := HS0.out; omega
        have hi0' : (0 : Int) ≤ (i : Int) := by omega
        have hi1' : (i : Int) < (xk.length : Int) := by omega
        have c6 := hat.c6
        have hfz := (hx2 b rfl).2.2 (off + i * 7 + 6)
        have HC3 := Lib.hid hI3
        have HX3 := Lib.hid (And.intro hx1 (And.intro hx2 hx3))
        have HSZ := Lib.hid (And.intro hs2 (And.intro hsz1 hszn))
        have HKU := Lib.hid hku
        clear hI3 hx1 hx2 hx3 hs2 hsz1 hszn hku hat
        generalize (xk[i]).kids = q at *
        go_upto_region 10 with (go_at_call 59; refine (own_any HKU.out (by omega)).mono ?_; rintro e w2 ⟨⟨v2, fs2, rfl, hf2, hr2⟩, hb2⟩; have d6 := (hb2.cell (p := ⟨b, off + i * 7 + 6, none⟩) hbl).trans c6; have dfz := (hb2.frozen (p := ⟨b, off + i * 7 + 6, none⟩) hbl).trans hfz; obtain ⟨va, vn, vc, hvs⟩ := hr2.sl; subst hvs)
        have hvl : vn = q.length := by have := RowF.slen hr2; rw [hf2.len] at this; exact this
        subst hvl
        have hob : ∀ k, (Value.slice oa2 ks2.length oc2).ownBlock = some k → k < wr.heap.size := fun k hk => (World.ownsRow.lt HC3.out.row k hk).2
        have hC2 := HC3.out.below hb2
        have hm2 : ∀ {z : Value} {r : List Nd}, RdN wr (fun b => (Value.slice oa2 ks2.length oc2).ownBlock ≠ some b ∧ (P b ∨ w.heap.size ≤ b)) z r → RdN w2 (fun b => (Value.slice oa2 ks2.length oc2).ownBlock ≠ some b ∧ (P b ∨ w.heap.size ≤ b)) z r := fun {z r} hz => hz.under hb2 (Nat.le_refl _)
        have hv2 : RdN w2 (fun b => (Value.slice oa2 ks2.length oc2).ownBlock ≠ some b ∧ (P b ∨ w.heap.size ≤ b)) (.slice va q.length vc) q :=
         hr2.rd (hf2.move (fun b _ hl => hb2.block b hl) hb2.size) fun b hb => ⟨fun e => by have := hob b e; have := (hr2.block b hb).1; omega, .inr (by have := (hr2.block b hb).1; have := HC3.out.base; omega)⟩
        have hpo := HX3.out.2.2 b rfl
        have hpB := (HX3.out.2.1 b rfl).1
        have hC4 := hC2.set (p := ⟨b, off + i * 7 + 6, none⟩) d6 (hm2 HKU.out) hv2 hpB hpo
        have hx4 := RdN.alike (p := ⟨b, off + i * 7 + 6, none⟩) d6 (hm2 HKU.out) hv2 _ xk _ (Nat.le_refl _) (hm2 HX3.out.1)
        have hv4 := RdN.alike (p := ⟨b, off + i * 7 + 6, none⟩) d6 (hm2 HKU.out) hv2 _ q _ (Nat.le_refl _) hv2
        have ht4 : Thaw w.heap.size (w2.setCell ⟨b, off + i * 7 + 6, none⟩ (.slice va q.length vc)) (.slice (some ⟨b, off, none⟩) xk.length xc) := (HX3.out.2.1.grown (gb_below hb2 none) (by simp)).set
        have htv : Thaw w.heap.size (w2.setCell ⟨b, off + i * 7 + 6, none⟩ (.slice va q.length vc)) (.slice va q.length vc) := by
         refine Thaw.set fun g' hg' => ?_
         obtain ⟨y1, y2, y3⟩ := Thaw.of_row hr2 g' hg'
         exact ⟨Nat.le_trans HC3.out.base y1, y2, y3⟩
        have hdv : ∀ k, (Value.slice va q.length vc).ownBlock = some k → (Value.slice oa2 ks2.length oc2).ownBlock ≠ some k := fun k hk e => by have := hob k e; have := (hr2.block k hk).1; omega
        have m6 : (w2.setCell ⟨b, off + i * 7 + 6, none⟩ (.slice va q.length vc)).cell? ⟨b, off + i * 7 + 6, none⟩ = some (.slice va q.length vc) := World.cell?_setCell_same _ _ _ d6
        generalize w2.setCell ⟨b, off + i * 7 + 6, none⟩ (.slice va q.length vc) = W at *
        have HC4 := Lib.hid hC4
        have HX4 := Lib.hid (And.intro hx4 ht4)
        have HV4 := Lib.hid (And.intro hv4 (And.intro htv hdv))
        have hwb := HC4.out.base
        clear hC2 hm2 hv2 hC4 hx4 hv4 ht4 htv hdv hob hf2 hr2 hb2 d6 dfz c6 hfz HC3
        by_cases hq0 : 0 < q.length
        · have hq1 : (0 : Int) < (q.length : Int) := by omega
          have hCA := HC4.out.below ((Below.refl W.heap.size W).alloc (Nat.le_refl _) (.cells #[.slice va q.length vc] 30))
          have hownA := hCA.row
          have HCA := Lib.hid hCA
          have hk2l : ks2.length ≤ 200000000 := by have h1 := szS_len ks2; have := HSZ.out.1; have := HGK.out.1; have := HGK.out.2; have := HS0.out; omega
          clear hCA
          go_wp2_with (at_builtin; refine wpList_append_lies _ rfl _ _ 87 rfl w.heap.size 30 i0 (.slice none 0 0) 1 24 Tryz.underlying87 hi hz0 hz1 hz2 rfl (by decide) _ ks2.length (ks2.map Prod.fst) rfl hownA ⟨_, 0, none⟩ 1 1 [.slice va q.length vc] rfl rfl (World.news_of_block (cs := #[.slice va q.length vc]) (heap_alloc_self _ _)) (by intro u hu; simp at hu; subst hu; rfl) (by decide) (by unfold maxLen; omega) (by omega) (by simp; omega) _ rfl ?_; intro g5 cap5 w5 hown5 hgrow5 hat5 hlt5)
          have hmA : ∀ {z : Value} {r : List Nd}, RdN W (fun b => (Value.slice oa2 ks2.length oc2).ownBlock ≠ some b ∧ (P b ∨ w.heap.size ≤ b)) z r → RdN (W.alloc (.cells #[.slice va q.length vc] 30)) (fun b => (Value.slice oa2 ks2.length oc2).ownBlock ≠ some b ∧ (P b ∨ w.heap.size ≤ b)) z r := fun {z r} hz => hz.under ((Below.refl _ _).alloc (Nat.le_refl _) _) (Nat.le_refl _)
          have htA : ∀ {z : Value}, Thaw w.heap.size W z → Thaw w.heap.size (W.alloc (.cells #[.slice va q.length vc] 30)) z := fun {z} hz => hz.grown (World.grownBy_alloc _ _ none) (by simp)
          have hCP := HCA.out.push (n := ks2.length) rfl hown5 hgrow5 hat5 (hmA HV4.out.1) (htA HV4.out.2.1) HV4.out.2.2
          have hXP := push_far (n := ks2.length) (cap := cap5) hgrow5 hat5 (hmA HX4.out.1) (htA HX4.out.2) HX3.out.2.2
          go_roundg (xk.length - (i + 1))
          case measure => omega
          case rel => exact ⟨i + 1, ks2 ++ [(.slice va q.length vc, q)], rfl, by omega, by go_num, by rw [szS_append]; simp only [szS]; have := HSZ.out.1; have := HSZ.out.2.1; have := HSZ.out.2.2; omega, hCP, hXP⟩
        · have hq1 : ¬ (0 : Int) < (q.length : Int) := by omega
          go_wp2
          go_roundg (xk.length - (i + 1))
          case measure => omega
          case rel => exact ⟨i + 1, ks2, rfl, by omega, by go_num, by have := HSZ.out.1; have := HSZ.out.2.1; have := HSZ.out.2.2; omega, HC4.out, HX4.out.1, HX4.out.2, HX3.out.2.2⟩
      · have HC3 := Lib.hid hI3
        have hd : xk.drop i = [] := List.drop_eq_nil_of_le (by omega)
        rw [hd] at hs2
        have e0 : szL [] = 0 := by rw [szL]
        rw [e0] at hs2
        have h9 := HS0.out
        have h10 := HGK.out.1
        have h11 := HGK.out.2
        clear hI3 hx1 hx2 hx3
        go_wp2
        go_roundg (szS ks2)
        case measure => omega
        case rel => exact ⟨ks2, rfl, by omega, HC3.out⟩
def CopyPost (w : World) (P : Nat → Prop) (l : List Nd) (e : Ending) (w' : World) : Prop := (∃ v', e = .returned v' ∧ RdN w' (fun b => P b ∨ w.heap.size ≤ b) v' l) ∧ Below w.heap.size w w'
theorem copy_post {l : List Nd} {v : Value} {w : World} {P : Nat → Prop} (h : RdN w P v l) (hl : szL l ≤ 100000000) : Calls Tryz.prog 36 #[v] w (CopyPost w P l) := copy_any h hl
def slN : Value → Nat
  | .slice _ n _ => n
  | _ => 0
theorem szL_sub : ∀ (k : Nat) (l : List Nd), szL (l.drop k) ≤ szL l
  | 0, l => Nat.le_refl _
  | k + 1, [] => by simp
  | k + 1, n :: l => by rw [List.drop_succ_cons, szL]; have := szL_sub k l; omega
theorem szL_take (l : List Nd) (n : Nd) : szL l ≤ szL (l ++ [n]) := by rw [szL_append]; omega
theorem wh_iff (t : Tok) (k : List Nd) : isWh (.mk t k) = (t.kind == 13) := by unfold isWh Nd.tok; rfl
theorem RdN.tail {w : World} {P : Nat → Prop} {b off n c : Nat} {l : List Nd} {A : Option Addr} (h : RdN w P (.slice (some ⟨b, off + 7, none⟩) n c) l) (hA : c = 0 ∨ A = some ⟨b, off + 7, none⟩) : RdN w P (.slice A n c) l := by
 rcases hA with hc | rfl
 · obtain ⟨a', c', he, hle⟩ := h.shape
   injection he with _ e2 e3
   subst e2 e3
   have : l = [] := List.eq_nil_of_length_eq_zero (by omega)
   subst this
   exact .nil _ _
 · exact h
theorem trim_any {l : List Nd} {v : Value} {w : World} {P : Nat → Prop} (h : RdN w P v l) (hl : szL l ≤ 100000000) :
    Calls Tryz.prog 105 #[v] w (CopyPost w P (trimS l)) := by
  go_enter Tryz.func105, Tryz.ntmps105
  go_wp2
  go_loop [0] (fun v => ∃ lr, RdN w P v lr ∧ trA lr = trA l ∧ szL lr ≤ szL l) (fun v => slN v)
  case atStart => exact ⟨l, h, rfl, Nat.le_refl _⟩
  case round =>
   obtain ⟨lr, hr, hA, hz⟩ := hrel
   have hzl := szL_ge lr
   have HR := Lib.hid hr
   cases hr with
   | nil a c =>
    have HT := Lib.hid (show trimS l = trZ [] by unfold trimS; rw [← hA]; rfl)
    clear hA h
    go_wp2
    go_loop [0] (fun v => ∃ l2, RdN w P v l2 ∧ trZ l2 = trZ [] ∧ szL l2 ≤ szL l) (fun v => slN v)
    case atStart => exact ⟨_, HR.out, rfl, hz⟩
    case round =>
     obtain ⟨l2, hr2, hZ, hz2⟩ := hrel
     have hzl2 := szL_ge l2
     clear hzl
     rcases List.eq_nil_or_concat l2 with rfl | ⟨l3, x, rfl⟩
     · have HR2 := Lib.hid hr2
       have HE := Lib.hid (show trimS l = [] by rw [HT.out, ← hZ]; rfl)
       obtain ⟨a2, c2, rfl, _⟩ := hr2.shape
       clear hr2 hZ HT
       go_wp2_with (go_at_call 36; refine (copy_post HR2.out (by rw [szL]; omega)).mono ?_; rintro e w2 ⟨⟨v2, rfl, hv2⟩, hb2⟩)
       go_ret
       rw [HE.out]
       exact ⟨⟨_, rfl, hv2⟩, hb2⟩
     · rw [List.concat_eq_append] at *
       obtain ⟨m, hm⟩ : ∃ m, l3.length = m := ⟨_, rfl⟩
       obtain ⟨b2, off2, c2, u2, hv2, hle2, _, hbl2, hat2, _⟩ := hr2.at l3.length (by simp)
       have hx : (l3 ++ [x])[l3.length]'(by simp) = x := by simp
       rw [hx] at hat2
       have hlen2 : (l3 ++ [x]).length = m + 1 := by simp [hm]
       rw [hlen2] at hv2 hle2
       rw [hm] at hat2
       subst hv2
       have HR2 := Lib.hid hr2
       have d0 := hat2.c0
       obtain ⟨xt, xk⟩ := x
       simp only [Nd.tok] at d0
       have hi0 : (0 : Int) ≤ (m : Int) := by omega
       have hi1 : (m : Int) < (m : Int) + 1 := by omega
       have hnl3 : m ≤ 100000000 := by omega
       have HM := Lib.hid hm
       clear hlen2 hm hzl2
       by_cases hw2 : (xt.kind == 13) = true
       · have HN := Lib.hid (And.intro (hr2.take m (by rw [List.length_append, HM.out]; simp)) (And.intro (show trZ l3 = trZ [] by rw [← hZ, trZ_snoc_wh _ _ (by rw [wh_iff]; exact hw2)]) (show szL l3 ≤ szL l by have := szL_take l3 (.mk xt xk); omega)))
         clear hr2 hZ hat2 hx HR2
         go_wp2
         go_round
         case rel =>
          refine ⟨l3, ?_, HN.out.2.1, HN.out.2.2⟩
          have := HN.out.1
          rw [List.take_left' HM.out] at this
          exact this
         case measure => simp [slN]
       · have hw2 : (xt.kind == 13) = false := by simpa using hw2
         have HE := Lib.hid (show trimS l = l3 ++ [.mk xt xk] by rw [HT.out, ← hZ, trZ_snoc_not _ _ (by rw [wh_iff]; exact hw2)])
         clear hr2 hZ hat2 hx HT
         go_wp2_with (go_at_call 36; refine (copy_post HR2.out (by omega)).mono ?_; rintro e w2 ⟨⟨v2, rfl, hv2⟩, hb2⟩)
         go_ret
         rw [HE.out]
         exact ⟨⟨_, rfl, hv2⟩, hb2⟩
   | cons b off n c t u k l' hP hb hat hku htl =>
    have hnl : n ≤ 100000000 := by obtain ⟨_, _, he, _⟩ := htl.shape; injection he with _ e2 _; simp at hzl; omega
    have c0 := hat.c0
    by_cases hw : (t.kind == 13) = true
    · have hA2 : trA l' = trA l := by rw [← hA, trA, wh_iff, if_pos hw]
      have HN := Lib.hid (And.intro htl (And.intro hA2 (show szL l' ≤ szL l by rw [szL] at hz; omega)))
      clear hat hku htl hA hA2 h HR
      go_wp2
      go_round
      case rel =>
       refine ⟨l', HN.out.1.tail ?_, HN.out.2.1, HN.out.2.2⟩
       by_cases hc : c = 0 <;> simp [hc]
      case measure => simp [slN]
    · have hw : (t.kind == 13) = false := by simpa using hw
      have HT := Lib.hid (show trimS l = trZ (.mk t k :: l') by unfold trimS; rw [← hA, trA, wh_iff, if_neg (by rw [hw]; decide)])
      clear hat hku htl hA h
      go_wp2
      go_loop [0] (fun v => ∃ l2, RdN w P v l2 ∧ trZ l2 = trZ (.mk t k :: l') ∧ szL l2 ≤ szL l) (fun v => slN v)
      case atStart => exact ⟨_, HR.out, rfl, hz⟩
      case round =>
       obtain ⟨l2, hr2, hZ, hz2⟩ := hrel
       have hzl2 := szL_ge l2
       clear hzl
       rcases List.eq_nil_or_concat l2 with rfl | ⟨l3, x, rfl⟩
       · have HR2 := Lib.hid hr2
         have HE := Lib.hid (show trimS l = [] by rw [HT.out, ← hZ]; rfl)
         obtain ⟨a2, c2, rfl, _⟩ := hr2.shape
         clear hr2 hZ HT
         go_wp2_with (go_at_call 36; refine (copy_post HR2.out (by rw [szL]; omega)).mono ?_; rintro e w2 ⟨⟨v2, rfl, hv2⟩, hb2⟩)
         go_ret
         rw [HE.out]
         exact ⟨⟨_, rfl, hv2⟩, hb2⟩
       · rw [List.concat_eq_append] at *
         obtain ⟨m, hm⟩ : ∃ m, l3.length = m := ⟨_, rfl⟩
         obtain ⟨b2, off2, c2, u2, hv2, hle2, _, hbl2, hat2, _⟩ := hr2.at l3.length (by simp)
         have hx : (l3 ++ [x])[l3.length]'(by simp) = x := by simp
         rw [hx] at hat2
         have hlen2 : (l3 ++ [x]).length = m + 1 := by simp [hm]
         rw [hlen2] at hv2 hle2
         rw [hm] at hat2
         subst hv2
         have HR2 := Lib.hid hr2
         have d0 := hat2.c0
         obtain ⟨xt, xk⟩ := x
         simp only [Nd.tok] at d0
         have hi0 : (0 : Int) ≤ (m : Int) := by omega
         have hi1 : (m : Int) < (m : Int) + 1 := by omega
         have hnl3 : m ≤ 100000000 := by omega
         have HM := Lib.hid hm
         clear hlen2 hm hzl2
         by_cases hw2 : (xt.kind == 13) = true
         · have HN := Lib.hid (And.intro (hr2.take m (by rw [List.length_append, HM.out]; simp)) (And.intro (show trZ l3 = trZ (.mk t k :: l') by rw [← hZ, trZ_snoc_wh _ _ (by rw [wh_iff]; exact hw2)]) (show szL l3 ≤ szL l by have := szL_take l3 (.mk xt xk); omega)))
           clear hr2 hZ hat2 hx HR2
           go_wp2
           go_round
           case rel =>
            refine ⟨l3, ?_, HN.out.2.1, HN.out.2.2⟩
            have := HN.out.1
            rw [List.take_left' HM.out] at this
            exact this
           case measure => simp [slN]
         · have hw2 : (xt.kind == 13) = false := by simpa using hw2
           have HE := Lib.hid (show trimS l = l3 ++ [.mk xt xk] by rw [HT.out, ← hZ, trZ_snoc_not _ _ (by rw [wh_iff]; exact hw2)])
           clear hr2 hZ hat2 hx HT
           go_wp2_with (go_at_call 36; refine (copy_post HR2.out (by omega)).mono ?_; rintro e w2 ⟨⟨v2, rfl, hv2⟩, hb2⟩)
           go_ret
           rw [HE.out]
           exact ⟨⟨_, rfl, hv2⟩, hb2⟩
structure LsR (B : Nat) (w : World) (ov : Value) (ks : Ls) : Prop where
  row : w.ownsRow B 30 1 ov ks.length (ks.map Prod.fst)
  rd : ∀ x ∈ ks, RdN w (fun b => ov.ownBlock ≠ some b) x.1 x.2
section
variable {B : Nat} {w w1 : World} {ov : Value} {ks : Ls}
theorem LsR.nil (B : Nat) (w : World) : LsR B w (.slice none 0 0) [] := ⟨World.ownsRow_nil _ _ _ _, fun x hx => by simp at hx⟩
theorem LsR.below (h : LsR B w ov ks) (hb : Below w.heap.size w w1) : LsR B w1 ov ks :=
 ⟨h.row.kept (gb_below hb none) (by cases hv : ov.ownBlock with | none => exact .inl rfl | some g => exact .inr (by simp)), fun x hx => (h.rd x hx).under hb (Nat.le_refl _)⟩
theorem LsR.sl (h : LsR B w ov ks) : ∃ a c, ov = .slice a ks.length c ∧ ks.length ≤ c := by
 rcases h.row.2 with ⟨h1, h0⟩ | ⟨g, cap, cur, hv, hb, hc, hn, _⟩
 · exact ⟨none, 0, by rw [h1, h0], by omega⟩
 · exact ⟨_, _, hv, hn⟩
theorem LsR.push {g cap n : Nat} {x : Value} {k : List Nd} (h : LsR B w ov ks) (hn : ks.length = n) (hown : w1.ownsRow B 30 1 (.slice (some ⟨g, 0, none⟩) (n + 1) cap) (n + 1) (ks.map Prod.fst ++ [x]))
    (hg : w.grownBy w1 ov.ownBlock) (hat : ov.ownBlock = some g ∨ g = w.heap.size) (hx : RdN w (fun b => ov.ownBlock ≠ some b) x k) :
    LsR B w1 (.slice (some ⟨g, 0, none⟩) (n + 1) cap) (ks ++ [(x, k)]) := by
  have hw : ∀ {v : Value} {q : List Nd}, RdN w (fun b => ov.ownBlock ≠ some b) v q → RdN w1 (fun b => (Value.slice (some ⟨g, 0, none⟩) (n + 1) cap).ownBlock ≠ some b) v q := fun {v q} hv =>
   ((hv.weak (Q := fun b => ov.ownBlock ≠ some b ∧ b < w.heap.size) fun b hl hb => ⟨hb, hl⟩).move (fun b hb _ => hg.block b hb.2 fun e => hb.1 e.symm) hg.size).weak fun b _ hb e => by
    have e2 : g = b := by simpa [Value.ownBlock] using e
    subst e2
    rcases hat with hat | hat
    · exact hb.1 hat
    · omega
  refine ⟨by rw [List.length_append, List.map_append, hn]; exact hown, fun y hy => ?_⟩
  rw [List.mem_append] at hy
  rcases hy with hy | hy
  · exact hw (h.rd y hy)
  · simp at hy; subst hy; exact hw hx
end
theorem RdN.addr {w : World} {P : Nat → Prop} {n c : Nat} {l : List Nd} {A p : Option Addr} (h : RdN w P (.slice p n c) l) (hA : c = 0 ∨ A = p) : RdN w P (.slice A n c) l := by
 rcases hA with hc | rfl
 · obtain ⟨a', c', he, hle⟩ := h.shape
   injection he with _ e2 e3
   subst e2 e3
   have : l = [] := List.eq_nil_of_length_eq_zero (by omega)
   subst this
   exact .nil _ _
 · exact h
theorem szL_le_take : ∀ (k : Nat) (l : List Nd), szL (l.take k) ≤ szL l
  | 0, l => by rw [List.take_zero, szL]; omega
  | k + 1, [] => by simp
  | k + 1, n :: l => by rw [List.take_succ_cons, szL, szL]; have := szL_le_take k l; omega
structure SplI (w : World) (_v : Value) (l : List Nd) (i bg : Nat) (wr : World) (pv : Value) (ks : Ls) : Prop where
  le : i ≤ l.length
  bi : bg ≤ i
  ls : LsR w.heap.size wr pv ks
  len : ks.length ≤ i
  run : ks.map Prod.snd ++ splA ((l.take i).drop bg) (l.drop i) = splS l
  bel : Below w.heap.size w wr
def SplitPost (w : World) (l : List Nd) (e : Ending) (w' : World) : Prop := (∃ v ks, e = .returned v ∧ LsR w.heap.size w' v ks ∧ ks.map Prod.snd = splS l) ∧ Below w.heap.size w w'
theorem spl_step {l : List Nd} {i bg : Nat} (hi : i < l.length) (hb : bg ≤ i) : ((l.take i).drop bg) ++ [l[i]] = (l.take (i + 1)).drop bg := by
 rw [List.take_succ_eq_append_getElem hi, List.drop_append_of_le_length (by rw [List.length_take]; omega)]
theorem split_any {l : List Nd} {v : Value} {w : World} {P : Nat → Prop} (h : RdN w P v l) (hl : szL l ≤ 100000000) :
    Calls Tryz.prog 25 #[v] w (SplitPost w l) := by
  obtain ⟨i0, hi, hz0, hz1, hz2⟩ := info_parts info_nodes
  have hll := szL_ge l
  have HV := Lib.hid (h.weak (Q := fun b => b < w.heap.size) fun b hl _ => hl)
  by_cases hp : 0 < l.length
  · obtain ⟨b, off, c, hv, hle, _, hb, g1⟩ := h.base hp
    subst hv
    have G1 := Lib.hid g1
    obtain ⟨N, hN⟩ : ∃ N, l.length = N := ⟨_, rfl⟩
    rw [hN] at HV hle hll
    clear g1 h
    rw [hN]
    go_enter Tryz.func25, Tryz.ntmps25
    go_wp2
    go_loopw [3, 4, 9] (fun pv bv iv wr => ∃ (i bg : Nat) (ks : Ls), iv = .int .i64 i ∧ bv = .int .i64 bg ∧ SplI w (.slice (some ⟨b, off, none⟩) N c) l i bg wr pv ks) (fun _ _ iv _ => N - (intOf iv).toNat)
    case atStart => exact ⟨0, 0, [], rfl, rfl, Nat.zero_le _, Nat.le_refl _, LsR.nil _ _, Nat.le_refl _, rfl, Below.refl _ _⟩
    case round =>
     obtain ⟨i, bg, ks, rfl, rfl, hI⟩ := hrel
     obtain ⟨pa, pc, hpv, hpc⟩ := hI.ls.sl
     obtain ⟨kn, hkn⟩ : ∃ kn, ks.length = kn := ⟨_, rfl⟩
     rw [hkn] at hpv hpc
     subst hpv
     have hiN := hI.le
     have hbi := hI.bi
     have hki := hI.len
     rw [hkn] at hki
     rw [hN] at hiN
     have HI := Lib.hid hI
     have HKN := Lib.hid hkn
     have HNN := Lib.hid hN
     clear hI hkn
     by_cases hlt : i < N
     · obtain ⟨u, hat, hku⟩ := G1.out i (by omega)
       obtain ⟨c0, c1, c2, c3, c4, c5, c6⟩ := hat.move (w' := wr) (HI.out.bel.block b hb)
       obtain ⟨ua, uc, hus, _⟩ := hku.shape
       subst hus
       have hx0 : (0 : Int) ≤ (i : Int) := by omega
       have hx1 : (i : Int) < (N : Int) := by omega
       have hrd : RdN wr (fun b => b < w.heap.size) (.slice (some ⟨b, off, none⟩) N c) l := HV.out.under HI.out.bel (Nat.le_refl _)
       have HRD := Lib.hid hrd
       have HIS0 := Lib.hid (show isCm (l[i]'(by omega)) = ((l[i]'(by omega)).tok.kind == 18) from rfl)
       clear hat hku hrd
       generalize (l[i]'(by omega)).kids = q at *
       generalize hti : (l[i]'(by omega)).tok = ti at *
       have HIS := Lib.hid (show isCm (l[i]'(by rw [HNN.out]; omega)) = (ti.kind == 18) by rw [HIS0.out])
       clear hti HIS0
       by_cases hc : (ti.kind == 18) = true
       · have hx2 : (bg : Int) ≤ (i : Int) := by omega
         have hx3 : (i : Int) ≤ (c : Int) := by omega
         have hx4 : (0 : Int) ≤ (bg : Int) := by omega
         go_upto_region 7 with fail
         have hW1 := (Below.refl wr.heap.size wr).alloc (Nat.le_refl _) (.cells #[.int .i64 ti.kind, .string ti.text, .int .i64 ti.int, .bool ti.whole, .bool ti.sign, .bool ti.id, .slice ua q.length uc] 96)
         have hcp := ((HRD.out.under hW1 (Nat.le_refl _)).take i (by rw [HNN.out]; omega)).drop bg (by rw [List.length_take, HNN.out]; omega)
         have hszW : wr.heap.size ≤ (wr.alloc (.cells #[.int .i64 ti.kind, .string ti.text, .int .i64 ti.int, .bool ti.whole, .bool ti.sign, .bool ti.id, .slice ua q.length uc] 96)).heap.size := hW1.size
         generalize wr.alloc (.cells #[.int .i64 ti.kind, .string ti.text, .int .i64 ti.int, .bool ti.whole, .bool ti.sign, .bool ti.id, .slice ua q.length uc] 96) = W1 at *
         have HCP := Lib.hid hcp
         have hsz : szL ((l.take i).drop bg) ≤ 100000000 := by have := szL_sub bg (l.take i); have := szL_le_take i l; omega
         clear hcp
         go_upto_region 8 with (first | (go_at_call 36; refine (copy_post HCP.out hsz).mono ?_; rintro e w2 ⟨⟨v2, rfl, hv2⟩, hb2⟩; obtain ⟨va, vn, vc, hvs⟩ := hv2.sl; subst hvs; have hcA := hW1.trans ((hb2.mono hszW).alloc (by have := hb2.size; omega) (.cells #[.slice va vn vc] 30)); have HLA := Lib.hid (HI.out.ls.below hcA); have hownA := HLA.out.row; rw [HKN.out] at hownA) | (at_builtin; refine wpList_append_lies _ rfl _ _ 87 rfl w.heap.size 30 i0 (.slice none 0 0) 1 24 Tryz.underlying87 hi hz0 hz1 hz2 rfl (by decide) _ kn (ks.map Prod.fst) rfl hownA ⟨_, 0, none⟩ 1 1 [.slice va vn vc] rfl rfl (World.news_of_block (cs := #[.slice va vn vc]) (heap_alloc_self _ _)) (by intro u hu; simp at hu; subst hu; rfl) (by decide) (by unfold maxLen; omega) (by omega) (by have := HI.out.bel.size; have := hb2.size; simp; omega) _ rfl ?_; intro g5 cap5 w5 hown5 hgrow5 hat5 hlt5))
         have hob : ∀ k, (Value.slice pa kn pc).ownBlock = some k → w.heap.size ≤ k ∧ k < wr.heap.size := fun k hk => World.ownsRow.lt HI.out.ls.row k hk
         have hx := (hv2.under ((Below.refl w2.heap.size w2).alloc (Nat.le_refl _) (.cells #[.slice va vn vc] 30)) (Nat.le_refl _)).weak (Q := fun b => (Value.slice pa kn pc).ownBlock ≠ some b) fun b _ hb e => by
          have := hob b e
          omega
         have hLP := HLA.out.push HKN.out hown5 hgrow5 hat5 hx
         go_wp2
         go_roundw
         case rel =>
          refine ⟨i + 1, i + 1, _, by go_num, by go_num, by rw [HNN.out]; omega, Nat.le_refl _, hLP, by rw [List.length_append, HKN.out]; simp; omega, ?_, ?_⟩
          · have hr := HI.out.run
            rw [List.drop_eq_getElem_cons (l := l) (i := i) (by rw [HNN.out]; omega), splA, HIS.out, if_pos hc] at hr
            rw [List.map_append, List.append_assoc, show (l.take (i + 1)).drop (i + 1) = [] from List.drop_eq_nil_of_le (by rw [List.length_take]; omega)]
            exact hr
          · have hbA := HI.out.bel.trans (hcA.mono HI.out.bel.size)
            exact hbA.trans ⟨hgrow5.os, hgrow5.tape, hgrow5.output, hgrow5.size, fun k hk => hgrow5.block k (Nat.lt_of_lt_of_le hk hbA.size) fun e => by have := (hob k e.symm).1; omega⟩
         case measure => simp [intOf]; omega
       · have hc : (ti.kind == 18) = false := by simpa using hc
         go_wp2
         go_roundw
         case rel =>
          refine ⟨i + 1, bg, ks, by go_num, rfl, by rw [HNN.out]; omega, by omega, HI.out.ls.below ((Below.refl wr.heap.size wr).alloc (Nat.le_refl _) _), by rw [HKN.out]; omega, ?_, HI.out.bel.alloc HI.out.bel.size _⟩
          have hr := HI.out.run
          rw [List.drop_eq_getElem_cons (l := l) (i := i) (by rw [HNN.out]; omega), splA, HIS.out, if_neg (by rw [hc]; decide), spl_step (by rw [HNN.out]; omega) (by omega)] at hr
          exact hr
         case measure => simp [intOf]; omega
     · have hiN2 : i = N := by omega
       have HRD := Lib.hid (show RdN wr (fun b => b < w.heap.size) (.slice (some ⟨b, off, none⟩) N c) l from HV.out.under HI.out.bel (Nat.le_refl _))
       by_cases hbc : c = bg
       · have hcp := (HRD.out.drop bg (by rw [HNN.out]; omega))
         have HCP2 := Lib.hid (show RdN wr (fun b => b < w.heap.size) (.slice (some ⟨b, off, none⟩) (N - bg) 0) (l.drop bg) by have := hcp.addr (A := some ⟨b, off, none⟩) (.inl (by omega)); rw [show c - bg = 0 by omega] at this; exact this)
         have hsz : szL (l.drop bg) ≤ 100000000 := by have := szL_sub bg l; omega
         have hx2 : (bg : Int) ≤ (N : Int) := by omega
         have hx4 : (0 : Int) ≤ (bg : Int) := by omega
         clear hcp
         go_wp2_with (first | (go_at_call 36; refine (copy_post HCP2.out hsz).mono ?_; rintro e w2 ⟨⟨v2, rfl, hv2⟩, hb2⟩; obtain ⟨va, vn, vc, hvs⟩ := hv2.sl; subst hvs; have hcA := hb2.alloc hb2.size (.cells #[.slice va vn vc] 30); have HLA := Lib.hid (HI.out.ls.below hcA); have hownA := HLA.out.row; rw [HKN.out] at hownA) | (at_builtin; refine wpList_append_lies _ rfl _ _ 87 rfl w.heap.size 30 i0 (.slice none 0 0) 1 24 Tryz.underlying87 hi hz0 hz1 hz2 rfl (by decide) _ kn (ks.map Prod.fst) rfl hownA ⟨_, 0, none⟩ 1 1 [.slice va vn vc] rfl rfl (World.news_of_block (cs := #[.slice va vn vc]) (heap_alloc_self _ _)) (by intro u hu; simp at hu; subst hu; rfl) (by decide) (by unfold maxLen; omega) (by omega) (by have := HI.out.bel.size; have := hb2.size; simp; omega) _ rfl ?_; intro g5 cap5 w5 hown5 hgrow5 hat5 hlt5))
         go_ret
         have hob : ∀ k, (Value.slice pa kn pc).ownBlock = some k → w.heap.size ≤ k ∧ k < wr.heap.size := fun k hk => World.ownsRow.lt HI.out.ls.row k hk
         have hx := (hv2.under ((Below.refl w2.heap.size w2).alloc (Nat.le_refl _) (.cells #[.slice va vn vc] 30)) (Nat.le_refl _)).weak (Q := fun b => (Value.slice pa kn pc).ownBlock ≠ some b) fun b _ hb e => by
          have := hob b e
          omega
         have hLP := HLA.out.push HKN.out hown5 hgrow5 hat5 hx
         refine ⟨⟨_, _, rfl, hLP, ?_⟩, ?_⟩
         · have hr := HI.out.run
           rw [show l.drop i = [] from List.drop_eq_nil_of_le (by rw [HNN.out]; omega), show l.take i = l from List.take_of_length_le (by rw [HNN.out]; omega)] at hr
           rw [List.map_append]
           exact hr
         · have hbA := HI.out.bel.trans (hcA.mono HI.out.bel.size)
           exact hbA.trans ⟨hgrow5.os, hgrow5.tape, hgrow5.output, hgrow5.size, fun k hk => hgrow5.block k (Nat.lt_of_lt_of_le hk hbA.size) fun e => by have := (hob k e.symm).1; omega⟩
       · have hcp := (HRD.out.drop bg (by rw [HNN.out]; omega))
         have HCP := Lib.hid hcp
         have hsz : szL (l.drop bg) ≤ 100000000 := by have := szL_sub bg l; omega
         have hx2 : (bg : Int) ≤ (N : Int) := by omega
         have hx4 : (0 : Int) ≤ (bg : Int) := by omega
         clear hcp
         go_wp2_with (first | (go_at_call 36; refine (copy_post HCP.out hsz).mono ?_; rintro e w2 ⟨⟨v2, rfl, hv2⟩, hb2⟩; obtain ⟨va, vn, vc, hvs⟩ := hv2.sl; subst hvs; have hcA := hb2.alloc hb2.size (.cells #[.slice va vn vc] 30); have HLA := Lib.hid (HI.out.ls.below hcA); have hownA := HLA.out.row; rw [HKN.out] at hownA) | (at_builtin; refine wpList_append_lies _ rfl _ _ 87 rfl w.heap.size 30 i0 (.slice none 0 0) 1 24 Tryz.underlying87 hi hz0 hz1 hz2 rfl (by decide) _ kn (ks.map Prod.fst) rfl hownA ⟨_, 0, none⟩ 1 1 [.slice va vn vc] rfl rfl (World.news_of_block (cs := #[.slice va vn vc]) (heap_alloc_self _ _)) (by intro u hu; simp at hu; subst hu; rfl) (by decide) (by unfold maxLen; omega) (by omega) (by have := HI.out.bel.size; have := hb2.size; simp; omega) _ rfl ?_; intro g5 cap5 w5 hown5 hgrow5 hat5 hlt5))
         go_ret
         have hob : ∀ k, (Value.slice pa kn pc).ownBlock = some k → w.heap.size ≤ k ∧ k < wr.heap.size := fun k hk => World.ownsRow.lt HI.out.ls.row k hk
         have hx := (hv2.under ((Below.refl w2.heap.size w2).alloc (Nat.le_refl _) (.cells #[.slice va vn vc] 30)) (Nat.le_refl _)).weak (Q := fun b => (Value.slice pa kn pc).ownBlock ≠ some b) fun b _ hb e => by
          have := hob b e
          omega
         have hLP := HLA.out.push HKN.out hown5 hgrow5 hat5 hx
         refine ⟨⟨_, _, rfl, hLP, ?_⟩, ?_⟩
         · have hr := HI.out.run
           rw [show l.drop i = [] from List.drop_eq_nil_of_le (by rw [HNN.out]; omega), show l.take i = l from List.take_of_length_le (by rw [HNN.out]; omega)] at hr
           rw [List.map_append]
           exact hr
         · have hbA := HI.out.bel.trans (hcA.mono HI.out.bel.size)
           exact hbA.trans ⟨hgrow5.os, hgrow5.tape, hgrow5.output, hgrow5.size, fun k hk => hgrow5.block k (Nat.lt_of_lt_of_le hk hbA.size) fun e => by have := (hob k e.symm).1; omega⟩
  · have hl0 : l = [] := List.eq_nil_of_length_eq_zero (by omega)
    subst hl0
    obtain ⟨a, c, rfl, hle⟩ := h.shape
    clear h hp
    have hP0 : ∀ W A C, RdN W (fun b => b < w.heap.size) (.slice A 0 C) [] := fun W A C => .nil A C
    cases a with
    | none =>
     go_enter Tryz.func25, Tryz.ntmps25
     go_wp2
     go_loop [3, 4, 9] (fun p b iv => p = .slice none 0 0 ∧ b = .int .i64 0 ∧ iv = .int .i64 0) (fun _ _ _ => 0)
     case atStart => exact ⟨rfl, rfl, rfl⟩
     case round =>
      obtain ⟨rfl, rfl, rfl⟩ := hrel
      have HC := Lib.hid (RdN.nil none c : RdN w (fun b => b < w.heap.size) (.slice none 0 c) [])
      go_wp2_with (first | (go_at_call 36; refine (copy_post HC.out (by rw [szL]; omega)).mono ?_; rintro e w2 ⟨⟨v2, rfl, hv2⟩, hb2⟩; obtain ⟨va, vn, vc, hvs⟩ := hv2.sl; subst hvs; have hcA := hb2.alloc hb2.size (.cells #[.slice va vn vc] 30)) | (at_builtin; refine wpList_append_lies _ rfl _ _ 87 rfl w.heap.size 30 i0 (.slice none 0 0) 1 24 Tryz.underlying87 hi hz0 hz1 hz2 rfl (by decide) (.slice none 0 0) 0 [] rfl (World.ownsRow_nil _ _ _ _) ⟨_, 0, none⟩ 1 1 [.slice va vn vc] rfl rfl (World.news_of_block (cs := #[.slice va vn vc]) (heap_alloc_self _ _)) (by intro u hu; simp at hu; subst hu; rfl) (by decide) (by decide) (by decide) (by have := hb2.size; simp; omega) _ rfl ?_; intro g5 cap5 w5 hown5 hgrow5 hat5 hlt5))
      go_ret
      have hx := (hv2.under ((Below.refl w2.heap.size w2).alloc (Nat.le_refl _) (.cells #[.slice va vn vc] 30)) (Nat.le_refl _)).weak (Q := fun b => (Value.slice none 0 0).ownBlock ≠ some b) fun b _ hb e => by simp [Value.ownBlock] at e
      have hLP := (LsR.nil w.heap.size _).push (n := 0) rfl hown5 hgrow5 hat5 hx
      exact ⟨⟨_, _, rfl, hLP, rfl⟩, hcA.trans ⟨hgrow5.os, hgrow5.tape, hgrow5.output, hgrow5.size, fun k hk => hgrow5.block k (Nat.lt_of_lt_of_le hk hcA.size) fun e => by simp [Value.ownBlock] at e⟩⟩
    | some ad =>
     go_enter Tryz.func25, Tryz.ntmps25
     go_wp2
     go_loop [3, 4, 9] (fun p b iv => p = .slice none 0 0 ∧ b = .int .i64 0 ∧ iv = .int .i64 0) (fun _ _ _ => 0)
     case atStart => exact ⟨rfl, rfl, rfl⟩
     case round =>
      obtain ⟨rfl, rfl, rfl⟩ := hrel
      have HC := Lib.hid (RdN.nil (some ad) c : RdN w (fun b => b < w.heap.size) (.slice (some ad) 0 c) [])
      go_wp2_with (first | (go_at_call 36; refine (copy_post HC.out (by rw [szL]; omega)).mono ?_; rintro e w2 ⟨⟨v2, rfl, hv2⟩, hb2⟩; obtain ⟨va, vn, vc, hvs⟩ := hv2.sl; subst hvs; have hcA := hb2.alloc hb2.size (.cells #[.slice va vn vc] 30)) | (at_builtin; refine wpList_append_lies _ rfl _ _ 87 rfl w.heap.size 30 i0 (.slice none 0 0) 1 24 Tryz.underlying87 hi hz0 hz1 hz2 rfl (by decide) (.slice none 0 0) 0 [] rfl (World.ownsRow_nil _ _ _ _) ⟨_, 0, none⟩ 1 1 [.slice va vn vc] rfl rfl (World.news_of_block (cs := #[.slice va vn vc]) (heap_alloc_self _ _)) (by intro u hu; simp at hu; subst hu; rfl) (by decide) (by decide) (by decide) (by have := hb2.size; simp; omega) _ rfl ?_; intro g5 cap5 w5 hown5 hgrow5 hat5 hlt5))
      go_ret
      have hx := (hv2.under ((Below.refl w2.heap.size w2).alloc (Nat.le_refl _) (.cells #[.slice va vn vc] 30)) (Nat.le_refl _)).weak (Q := fun b => (Value.slice none 0 0).ownBlock ≠ some b) fun b _ hb e => by simp [Value.ownBlock] at e
      have hLP := (LsR.nil w.heap.size _).push (n := 0) rfl hown5 hgrow5 hat5 hx
      exact ⟨⟨_, _, rfl, hLP, rfl⟩, hcA.trans ⟨hgrow5.os, hgrow5.tape, hgrow5.output, hgrow5.size, fun k hk => hgrow5.block k (Nat.lt_of_lt_of_le hk hcA.size) fun e => by simp [Value.ownBlock] at e⟩⟩
end Go.Proofs.YtclicjiakkcfcaaGreatDoor
