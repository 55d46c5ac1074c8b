
import Derived.Test.YtlkfibjbfnaagaaDoorDmQ
import Derived.Test.YtlkfibjbfnaagaaDoorDmR
import Derived.Maps.AppendAt
import Derived.Maps.OwnIn
import Derived.Deep.DeepMust
namespace Go.Proofs.YtlkfibjbfnaagaaDoor
open Go.RowKit Go.Shelf Go.Maps Go.WideMaps
attribute [local go_sem] Oper.semAt_some
theorem own_same {B : Nat} {w w' : World} {e : TypeId} {size n : Nat} {v : Value} {xs : List Value} (h : w.ownsRow B e size v n xs) (hw : ∀ b : Nat, w.heap[b]? ≠ some (Obj.deferred (some [])) → w'.heap[b]? = w.heap[b]?) : w'.ownsRow B e size v n xs := by
  refine ⟨h.1, ?_⟩
  rcases h.2 with h | ⟨g, cap, cur, h1, h2, h3, h4⟩
  · exact .inl h
  · exact .inr ⟨g, cap, cur, h1, h2, (hw g (by rw [h3]; intro e; cases e)).trans h3, h4⟩
theorem own_less {B : Nat} {w : World} {e : TypeId} {g n m cap : Nat} {xs : List Value} (h : w.ownsRow B e 1 (.slice (some ⟨g, 0, none⟩) n cap) n xs) (hm : m ≤ n) : w.ownsRow B e 1 (.slice (some ⟨g, 0, none⟩) m cap) m (xs.take m) := by
  refine ⟨by rw [List.length_take, h.1]; omega, ?_⟩
  rcases h.2 with ⟨h1, _⟩ | ⟨g2, cap2, cur, h1, h2, h3, h4, h5, h6, h7⟩
  · cases h1
  · injection h1 with h1 _ hc
    injection h1 with h1
    injection h1 with h1
    subst h1; subst hc
    refine .inr ⟨g, cap, cur, rfl, h2, h3, by omega, h5, h6, ?_⟩
    rw [← h7, List.take_take]
    congr 1
    omega
theorem row_own {β : Type} (n₀ : Nat) (e : TypeId) (size k : Nat) (v : Value) (xs : List Value) : Own (fun (_ : β) W => W.ownsRow n₀ e size v k xs) := fun s X Y row hr hg hrow => by
  refine hr.kept hg ?_
  rcases hr.2 with ⟨rfl, _⟩ | ⟨g, cap, cur, rfl, _, hgb, _⟩
  · exact .inl rfl
  · refine .inr fun e' => ?_
    obtain ⟨o, ho, hc⟩ := hrow g (by simpa [Value.ownBlock] using e'.symm)
    rw [hgb] at ho; cases ho; cases hc
theorem upto_rev (zs : List Int) : (upto (bk zs) zs.length).map (fun x => x.2) = zs.reverse := by
  refine List.ext_getElem (by rw [List.length_map, upto_length, List.length_reverse]) fun j h1 h2 => ?_
  rw [List.length_reverse] at h2
  simp only [upto, List.getElem_map, List.getElem_range, bk, List.getElem_reverse]
  rw [List.getElem?_eq_getElem (by omega)]
  rfl
/-- What stands between two rounds of Order. -/
structure OrdRel (w : World) (OB N : Nat) (es : List NdD) (sv : Value) (ds : List Deferred) (Ds vis st : List Nat) (wx : World) : Prop where
  tg : ds.map (·.target) = Ds.map Target.collected
  nd : Ds.Nodup
  marks : ∀ D ∈ Ds, w.heap.size ≤ D ∧ wx.heap[D]? = some (.deferred (some []))
  ord : wx.ownsRow w.heap.size 3 1 (.slice (some ⟨w.heap.size, 0, none⟩) vis.length N) vis.length ((ints vis).map (Value.int .i64))
  box : Boxed wx OB 33 sv
  opn : wx.ownsRow (w.heap.size + 1) 3 1 sv st.length ((ints st).map (Value.int .i64))
  v : Vis es vis st
  q : vis ++ ordF es (N - vis.length) st = orderS es
  hb : Below w.heap.size w wx
def OrdI (w : World) (tb OB N : Nat) (z14 z15 : Value) (es : List NdD) (vis st : List Nat) (a : Act) (wx : World) : Prop := ∃ (kk : Nat) (sv : Value) (ds : List Deferred) (Ds : List Nat) (u5 u6 u7 u8 u16 u17 u18 u19 u20 u21 u22 u23 u24 u25 u26 u27 u28 u29 u30 u31 u32 u33 u34 u35 u36 u37 u38 u39 u40 u41 u42 u43 u44 u45 u46 u47 : Value), a = ⟨#[tp tb, undef, .slice none 0 0, .slice (some ⟨w.heap.size, 0, none⟩) kk N, .pointer (some ⟨OB, 0, none⟩), u5, u6, u7, u8, tp tb, .int .i64 (N : Int), .bool false, tp tb, .int .i64 (N : Int), z14, z15, u16, u17, u18, u19, u20, u21, u22, u23, u24, u25, u26, u27, u28, u29, u30, u31, u32, u33, u34, u35, u36, u37, u38, u39, u40, u41, u42, u43, u44, u45, u46, u47, undef], ds⟩ ∧ kk = vis.length ∧ OrdRel w OB N es sv ds Ds vis st wx
def ordM (N : Nat) (a : Act) : Nat := match a.tmps.getD 3 undef with
  | .slice _ n _ => N - n
  | _ => 0
set_option maxRecDepth 100000 in
set_option maxRecDepth 100000 in
set_option maxHeartbeats 3200000 in
theorem order_any {w : World} {tb g c : Nat} {es : List NdD} (h : TreeR w tb g c es) (hw : WF es) (ht : Tr es) (hp : 0 < es.length) : Calls Tryd.prog 14 #[tp tb] w (IntsPost w (orderS es)) := by
  obtain ⟨i0, hi, hz0, hz1, hz2⟩ := info_parts info_int
  have HL := Lib.hid (len_any h)
  have hlen := h.len
  obtain ⟨N, hN⟩ : ∃ N, es.length = N := ⟨_, rfl⟩
  rw [hN] at HL hlen hp
  obtain ⟨w1, hmk, hown, hg⟩ := run_make_own (P := Tryd.prog) w w.heap.size 33 3 i0 _ 1 Tryd.underlying33 hi hz0 hz1 .i64 .i64 N (by rw [hz2]; omega) (by unfold maxLen; omega) (Nat.le_refl _)
  have hw1 : w.heap.size + 1 ≤ w1.heap.size := by
    have := hown.lt w.heap.size rfl
    omega
  have hn0 : ¬ (N : Int) = 0 := by omega
  have hn0' : ((N : Int) == 0) = false := by simpa using hn0
  refine (callsIn_wide (n := 8)).1 ?_
  refine callsIn_of_wp_marks Tryd.func14 rfl trivial ?_ rfl
  simp only [Tryd.ntmps14, List.size_toArray, List.length_cons, List.length_nil, Nat.reduceAdd, Nat.reduceSub, Array.replicate_succ, Array.replicate_zero, List.push_toArray, List.append_toArray, List.nil_append, List.cons_append]
  gi_wp2_with (refine ⟨trivial, ?_⟩; gi_at_call 12; (with_reducible refine (callsIn_wide.2 HL.out).mono ?_); rintro e w9 ⟨rfl, rfl⟩)
  refine wpIn_loop (fun a wx => ∃ vis st, OrdI w tb (w1.heap.size + 1) N (.slice (some ⟨w.heap.size, 0, none⟩) 0 N) (.slice (some ⟨w1.heap.size, 0, none⟩) 1 1) es vis st a wx) (fun a _ => ordM N a) ?start ?round
  case start =>
    have hA := ((Below.refl w.heap.size w).grown hg (Nat.le_refl _) (fun k e => by cases e))
    refine ⟨[], [0], 0, .slice (some ⟨w1.heap.size, 0, none⟩) 1 1, [], [], undef, undef, undef, undef, undef, undef, undef, undef, undef, undef, undef, undef, undef, undef, undef, undef, undef, undef, undef, undef, undef, undef, undef, undef, undef, undef, undef, undef, undef, undef, undef, undef, undef, undef, undef, undef, rfl, rfl, ?_⟩
    refine ⟨rfl, List.nodup_nil, fun D hD => (by cases hD), (hown.alloc _).alloc _, ?_, ?_, vis_zero (by omega), ?_, ?_⟩
    · have := Boxed.new (w1.alloc (.cells #[.int .i64 0] 3)) 33 (.slice (some ⟨w1.heap.size, 0, none⟩) 1 1)
      rw [World.size_alloc] at this
      exact this
    · exact World.ownsRow.alloc (World.ownsRow_lit w1 #[.int .i64 0] 1 hw1 (by unfold maxLen; omega) rfl) _
    · unfold orderS
      rw [if_neg (by omega), hN]
      rfl
    · exact (hA.alloc (by omega) _).alloc (by rw [World.size_alloc]; omega) _
  case round =>
    rintro a wx ⟨vis, st, kk, sv, ds, Ds, u5, u6, u7, u8, u16, u17, u18, u19, u20, u21, u22, u23, u24, u25, u26, u27, u28, u29, u30, u31, u32, u33, u34, u35, u36, u37, u38, u39, u40, u41, u42, u43, u44, u45, u46, u47, rfl, rfl, hr⟩
    have hr0 := h.below hr.hb
    have hbox := hr.box.cell
    have hboxf := hr.box.frozen
    have hvl := hr.v.few
    rw [hN] at hvl
    rcases List.eq_nil_or_concat st with rfl | ⟨st0, i, rfl⟩
    · obtain ⟨sa, sc, rfl⟩ : ∃ a c, sv = .slice a 0 c := by
        rcases hr.opn.2 with ⟨h1, _⟩ | ⟨_, _, _, h1, _⟩
        · exact ⟨_, _, h1⟩
        · exact ⟨_, _, h1⟩
      gi_wp2
      refine leaves_marks ds Ds wx hr.tg hr.nd hr.marks (fun w' hw' hb' => ?_)
      refine ⟨_, results_tmp rfl _ _ _, ?_⟩
      have hq := hr.q
      rw [ord_nil, List.append_nil] at hq
      refine ⟨_, rfl, ?_, hr.hb.trans hb'⟩
      rw [← hq]
      exact rd_own (own_same hr.ord hw')
    · rw [List.concat_eq_append] at hr hvl
      rw [List.length_append, List.length_singleton] at hvl
      have hol := hr.opn
      rw [List.length_append, List.length_singleton] at hol
      obtain ⟨gs, sc, rfl⟩ := ownsRow_succ hol
      have hopn := own_less hol (m := st0.length) (by omega)
      have htk : ((ints (st0 ++ [i])).map (Value.int .i64)).take st0.length = (ints st0).map (Value.int .i64) := by
        rw [ints_snoc, List.take_append_of_le_length (by simp [ints]), List.take_of_length_le (by simp [ints])]
      rw [htk] at hopn
      have hci : wx.cell? ⟨gs, st0.length, none⟩ = some (.int .i64 i) := by
        rw [hol.cellAt st0.length (by omega), ints_snoc, List.getElem?_append_right (by simp [ints])]
        simp [ints]
      have hil : i < es.length := hr.v.lt i (by simp)
      have hiI : (i : Int) < (N : Int) := by omega
      obtain ⟨av, kv, hat, _, hkv⟩ := h.nodes i hil
      have hroot := hr0.root
      have q5 := (hr.hb.cell (p := ⟨g, i * 7 + 5, none⟩) h.gl).trans hat.c5
      have hsc : st0.length + 1 ≤ sc := by
        rcases hol.2 with ⟨h1, _⟩ | ⟨_, _, _, h1, _, _, h2, _⟩
        · cases h1
        · injection h1 with _ h3 h4; rw [h4]; exact h2
      have hsub : (st0.length : Int) + 1 - 1 = (st0.length : Int) := by omega
      have hl0 : (0 : Int) < (st0.length : Int) + 1 := by omega
      have hll : (st0.length : Int) < (st0.length : Int) + 1 := by omega
      have hl00 : (0 : Int) ≤ (st0.length : Int) := by omega
      obtain ⟨ka, kc, rfl, hkle, hkcc⟩ := hkv
      have hOBw : w.heap.size ≤ w1.heap.size + 1 := by omega
      have hgl := h.gl
      have htl := h.tl
      have hwx := hr.hb.size
      have hgsOB : gs ≠ w1.heap.size + 1 := fun e => hr.box.not_row (by decide) hol (by rw [e]; rfl)
      have hgsw : w.heap.size + 1 ≤ gs := (hol.lt gs rfl).1
      rw [hN] at hroot
      have hsz : (wx.setCell ⟨w1.heap.size + 1, 0, none⟩ (.slice (some ⟨gs, 0, none⟩) st0.length sc)).heap.size = wx.heap.size := by simp [World.setCell]
      have hbx2 := (hr.box.set (.slice (some ⟨gs, 0, none⟩) st0.length sc)).alloc (.cells #[.int .i64 i] 3)
      have hord2 := World.ownsRow.alloc (hr.ord.kept (grownBy_setCell' wx (w1.heap.size + 1) (.slice (some ⟨gs, 0, none⟩) st0.length sc)) (.inr (by intro e; have e2 := Option.some.inj e; change w.heap.size = w1.heap.size + 1 at e2; omega))) (.cells #[.int .i64 i] 3)
      have hopn2 := World.ownsRow.alloc (hopn.kept (grownBy_setCell' wx (w1.heap.size + 1) (.slice (some ⟨gs, 0, none⟩) st0.length sc)) (.inr (by intro e; exact hgsOB (Option.some.inj e)))) (.cells #[.int .i64 i] 3)
      have hmk2 : ∀ D ∈ Ds, ((wx.setCell ⟨w1.heap.size + 1, 0, none⟩ (.slice (some ⟨gs, 0, none⟩) st0.length sc)).alloc (.cells #[.int .i64 i] 3)).heap[D]? = some (.deferred (some [])) := fun D hD =>
        ((KeepsOthers.setCell wx ⟨w1.heap.size + 1, 0, none⟩ (.slice (some ⟨gs, 0, none⟩) st0.length sc)).trans (KeepsOthers.alloc _ _)).same D _ (hr.marks D hD).2 rfl
      have hbl2 : Below w.heap.size w ((wx.setCell ⟨w1.heap.size + 1, 0, none⟩ (.slice (some ⟨gs, 0, none⟩) st0.length sc)).alloc (.cells #[.int .i64 i] 3)) := (hr.hb.setCell (p := ⟨w1.heap.size + 1, 0, none⟩) hOBw _).alloc (by rw [hsz]; exact hwx) _
      have hcn : ∀ (j : Nat) (u : Value), [Value.int .i64 (i : Int)][j]? = some u → ((wx.setCell ⟨w1.heap.size + 1, 0, none⟩ (.slice (some ⟨gs, 0, none⟩) st0.length sc)).alloc (.cells #[.int .i64 i] 3)).cell? ((⟨wx.heap.size, 0, none⟩ : Addr).add j) = some u := by
        have h1 := cell_one_new (wx.setCell ⟨w1.heap.size + 1, 0, none⟩ (.slice (some ⟨gs, 0, none⟩) st0.length sc)) (.int .i64 (i : Int)) 3
        rw [hsz] at h1
        exact h1
      have hszA : ((wx.setCell ⟨w1.heap.size + 1, 0, none⟩ (.slice (some ⟨gs, 0, none⟩) st0.length sc)).alloc (.cells #[.int .i64 i] 3)).heap.size = wx.heap.size + 1 := by rw [World.size_alloc, hsz]
      have hfacts : ∀ w4, ((wx.setCell ⟨w1.heap.size + 1, 0, none⟩ (.slice (some ⟨gs, 0, none⟩) st0.length sc)).alloc (.cells #[.int .i64 i] 3)).grownBy w4 (some w.heap.size) → Boxed w4 (w1.heap.size + 1) 33 (.slice (some ⟨gs, 0, none⟩) st0.length sc) ∧ w4.ownsRow (w.heap.size + 1) 3 1 (.slice (some ⟨gs, 0, none⟩) st0.length sc) st0.length ((ints st0).map (Value.int .i64)) ∧ (∀ D ∈ Ds, w4.heap[D]? = some (.deferred (some []))) ∧ Below w.heap.size w w4 ∧ w4.cell? ⟨tb, 0, none⟩ = some (.slice (some ⟨g, 0, none⟩) N c) ∧ w4.cell? ⟨g, i * 7 + 5, none⟩ = some (.slice ka (ints (es[i]).kids).length kc) ∧ wx.heap.size + 1 ≤ w4.heap.size := fun w4 hg4 => by
        have hb4 : Below w.heap.size w w4 := hbl2.grown hg4 (by omega) (fun k e => by have e2 := Option.some.inj e; omega)
        refine ⟨hbx2.kept hg4 (by intro e; have e2 := Option.some.inj e; omega), hopn2.kept hg4 (.inr (by intro e; have e2 := Option.some.inj e; change gs = w.heap.size at e2; omega)), fun D hD => ?_, hb4, ?_, ?_, by have := hg4.size; omega⟩
        · have h1 := hmk2 D hD
          have hD0 : D ≠ w.heap.size := fun e => by
            rcases hord2.2 with ⟨h2, _⟩ | ⟨g2, cap, cur, h2, _, h3, _⟩
            · cases h2
            · injection h2 with h2; injection h2 with h2; injection h2 with h2
              rw [← h2, ← e, h1] at h3
              cases h3
          exact (hg4.block D (Array.getElem?_eq_some_iff.1 h1).1 (by intro e; exact hD0 (Option.some.inj e))).trans h1
        · have := (h.below hb4).root
          rw [hN] at this
          exact this
        · exact (hb4.cell (p := ⟨g, i * 7 + 5, none⟩) hgl).trans hat.c5
      have hst : st0.length ≤ 1000 := by omega
      have HA := Lib.hid hord2
      have HCN := Lib.hid hcn
      have HV1 := Lib.hid (show vis.length + 1 ≤ N by omega)
      have HF := Lib.hid hfacts
      have HAt := Lib.hid hat
      have HKC := Lib.hid hkcc
      have HR := Lib.hid hr
      clear hord2 hcn hfacts hat hkcc hr hr0 hol hopn hopn2 hmk2 hbl2 hbx2 hvl hsz hszA
      gi_wp2_with (gi_at_builtin; go_must (refine wpListIn_append_fits _ rfl _ _ 33 rfl w.heap.size 3 i0 1 Tryd.underlying33 hi hz1 w.heap.size vis.length N ((ints vis).map (Value.int .i64)) rfl HA.out ⟨_, 0, none⟩ 1 1 [.int .i64 i] rfl rfl HCN.out (fun u hu => by simp at hu; subst hu; rfl) HV1.out ?_); intro w4 ho4 hg4; obtain ⟨hbx4, hop4, hmk4, hb4, hroot4, q54, hsz4⟩ := HF.out w4 hg4)
      refine ⟨trivial, ?_⟩
      refine (back_in Fence.wide _ trivial rfl _ _ _ _).mono ?_
      rintro e w5 ⟨rfl, rfl⟩
      gi_wp2
      have HA4 := Lib.hid ho4
      obtain ⟨wr, hwr⟩ : ∃ wr, w4.alloc (.cells #[.slice ka (ints (es[i]).kids).length kc] 33) = wr := ⟨_, rfl⟩
      have hwrs : wr.heap.size = w4.heap.size + 1 := by rw [← hwr, World.size_alloc]
      have hw4w : w.heap.size ≤ w4.heap.size := hb4.size
      have hbs : Boxed wr w4.heap.size 33 (.slice ka (ints (es[i]).kids).length kc) := by rw [← hwr]; exact Boxed.new w4 _ _
      have hbxr : Boxed wr (w1.heap.size + 1) 33 (.slice (some ⟨gs, 0, none⟩) st0.length sc) := by rw [← hwr]; exact hbx4.alloc _
      have hopr : wr.ownsRow (w.heap.size + 1) 3 1 (.slice (some ⟨gs, 0, none⟩) st0.length sc) st0.length ((ints st0).map (Value.int .i64)) := by rw [← hwr]; exact hop4.alloc _
      have hordr : wr.ownsRow w.heap.size 3 1 (.slice (some ⟨w.heap.size, 0, none⟩) (vis.length + 1) N) (vis.length + 1) ((ints vis).map (Value.int .i64) ++ [.int .i64 (i : Int)]) := by rw [← hwr]; exact HA4.out.alloc _
      have hmkr : ∀ D ∈ Ds, wr.heap[D]? = some (.deferred (some [])) := fun D hD => by rw [← hwr]; exact (KeepsOthers.alloc w4 _).same D _ (hmk4 D hD) rfl
      have hmkl : ∀ D ∈ Ds, D < wr.heap.size := fun D hD => (Array.getElem?_eq_some_iff.1 (hmkr D hD)).1
      have hblr : Below w.heap.size w wr := by rw [← hwr]; exact hb4.alloc hw4w _
      have hrd : Rd .i64 w (.slice ka (ints (es[i]).kids).length kc) (ints (es[i]).kids) := ⟨ka, kc, rfl, hkle, HKC.out⟩
      have hkl : (ints (es[i]).kids).length ≤ 1000 := by
        have h1 := hw.few i hil
        have h2 : (ints (es[i]).kids).length = (es[i]).kids.length := by simp [ints]
        omega
      have hOBn : w4.heap.size ≠ w1.heap.size + 1 := by
        have := hbx4.lt
        omega
      rw [hwr]
      refine wpIn_rangeFunc_ownG rfl (by decide) (gf := 47) (lb := #[.pointer (some ⟨w4.heap.size, 0, none⟩)]) rfl trivial (enters_of Tryd.func47 (by kernel_rfl) rfl)
        (back_stops Fence.wide (8 - 1) trivial rfl (by decide) w4.heap.size _ (ints (es[i]).kids) (by omega) wr (by omega) hbs.cell (hrd.below hblr) (fun A B => Below w.heap.size A B ∧ B.heap[w4.heap.size]? = A.heap[w4.heap.size]?)
          (fun {A B C} h k => ⟨h.1.trans k.1, k.2.trans h.2⟩) (fun A => ⟨Below.refl _ _, rfl⟩) (fun A B h => by simp only [World.cell?, h.2]) (fun b off cc e hz A B o h => by
            have hb : b < w.heap.size := by
              obtain ⟨b2, off2, hka, hb2, _⟩ := HKC.out hz
              injection e with e
              rw [hka] at e
              injection e with e
              injection e with e
              omega
            exact h.1.cell (p := ⟨b, o, none⟩) hb))
        (fun {A B C} h k => ⟨h.1.trans k.1, k.2.trans h.2⟩) (fun W l o o' hl h1 h2 h3 => ⟨belowK_b (w := wr) (by omega) W l o o' hl h1 h2 h3, World.putObj_heap_other (by omega)⟩) (Below.refl _ _) (fun _ => rfl)
        (fun pre W => (∃ v, Boxed W (w1.heap.size + 1) 33 v ∧ W.ownsRow (w.heap.size + 1) 3 1 v (st0.length + pre.length) ((ints st0 ++ pre.map (fun x => x.2)).map (Value.int .i64)) ∧ True) ∧ (W.ownsRow w.heap.size 3 1 (.slice (some ⟨w.heap.size, 0, none⟩) (vis.length + 1) N) (vis.length + 1) ((ints vis).map (Value.int .i64) ++ [.int .i64 (i : Int)]) ∧ (Boxed W w4.heap.size 33 (.slice ka (ints (es[i]).kids).length kc) ∧ ((∀ D ∈ Ds, W.heap[D]? = some (.deferred (some []))) ∧ Below w.heap.size w W))))
        (fun _ _ _ => False)
        (OwnFrom.and (Own.from (holdsRow_own (w.heap.size + 1) (w1.heap.size + 1) 33 3 1 (fun pre : List (Nat × Int) => st0.length + pre.length) (fun pre => (ints st0 ++ pre.map (fun x => x.2)).map (Value.int .i64)) (fun _ _ => True)) _) (OwnFrom.and (Own.from (row_own _ _ _ _ _ _) _) (OwnFrom.and (Own.from (boxed_own _ _ _) _) (OwnFrom.and (fun s X Y row hm hg hr D hD => (hg.block D (Array.getElem?_eq_some_iff.1 (hm D hD)).1 (fun e => by
          have h1 := (hr D e.symm).1
          have h2 := hmkl D hD
          omega)).trans (hm D hD)) (ownFrom_below (Nat.le_refl _) (by omega))))))
        (fun _ _ _ _ _ hs _ _ => hs)
        ⟨⟨_, hbxr, by simpa using hopr, trivial⟩, hordr, hbs, hmkr, hblr⟩
        (fun x => { tmps := #[tp tb, undef, .slice none 0 0, .slice (some ⟨w.heap.size, 0, none⟩) (vis.length + 1) N, .pointer (some ⟨w1.heap.size + 1, 0, none⟩), .int .i64 (st0.length : Int), .int .i64 (i : Int), u7, .int .i64 x.2, tp tb, .int .i64 (N : Int), .bool false, tp tb, .int .i64 (N : Int), .slice (some ⟨w.heap.size, 0, none⟩) 0 N, .slice (some ⟨w1.heap.size, 0, none⟩) 1 1,
          .slice (some ⟨gs, 0, none⟩) (st0.length + 1) sc, .int .i64 ((st0.length : Int) + 1), .bool true, .slice (some ⟨gs, 0, none⟩) (st0.length + 1) sc, .int .i64 ((st0.length : Int) + 1), .int .i64 (st0.length : Int), .slice (some ⟨gs, 0, none⟩) (st0.length + 1) sc, .int .i64 (st0.length : Int), .pointer (some ⟨gs, st0.length, none⟩), .int .i64 (i : Int), .slice (some ⟨gs, 0, none⟩) (st0.length + 1) sc, .int .i64 (st0.length : Int), .slice (some ⟨gs, 0, none⟩) st0.length sc,
          .slice (some ⟨w.heap.size, 0, none⟩) vis.length N, .int .i64 (i : Int), .slice (some ⟨wx.heap.size, 0, none⟩) 1 1, .slice (some ⟨w.heap.size, 0, none⟩) (vis.length + 1) N, tp tb, .pointer (some ⟨tb, 0, none⟩), .pointer (some ⟨tb, 0, none⟩), .slice (some ⟨g, 0, none⟩) N c, .int .i64 (i : Int), .pointer (some ⟨g, i * 7, none⟩), .pointer (some ⟨g, i * 7 + 5, none⟩), .slice ka (ints (es[i]).kids).length kc,
          .func (.func 47) #[] #[.pointer (some ⟨w4.heap.size, 0, none⟩)], .int .i64 (x.1 : Int), .int .i64 x.2, u44, u45, u46, u47, undef], defers := [] }) ?assign ?body ?done ?stop
      case assign =>
        intro l x W K hK
        gi_wp2
        exact hK
      case body =>
        rintro l pre x W ⟨⟨v, hv, hrow, _⟩, hord, hbs9, hmk9, hB9⟩ hlt
        have hc := hv.cell
        have hf := hv.frozen
        have hpl : pre.length < 1000 := by omega
        have hb1 : st0.length + pre.length + 1 ≤ maxLen := by unfold maxLen; omega
        have hb2' : (st0.length + pre.length + 1) * 8 ≤ 140737488355328 := by omega
        have hb3 : w.heap.size + 1 ≤ (W.alloc (.cells #[.int .i64 x.2] 3)).heap.size := by
          have := hB9.size
          have := hbs9.lt
          rw [World.size_alloc]
          omega
        have hn1 : w.heap.size + 1 ≤ W.heap.size := by
          have := hbs9.lt
          omega
        have HB1 := Lib.hid hb1
        have HB2 := Lib.hid hb2'
        have HB3 := Lib.hid hb3
        have HW9 := Lib.hid hrow
        have HVV := Lib.hid hv
        have HL9 := Lib.hid hlt
        clear hb1 hb2' hb3 hrow hv hlt hpl
        gi_wp2_with (gi_at_builtin; go_must (refine wpListIn_append_own _ rfl _ _ 33 rfl (w.heap.size + 1) 3 i0 (.int .i64 0) 1 8 Tryd.underlying33 hi hz0 hz1 hz2 rfl (by decide) _ _ _ rfl (HW9.out.alloc _) ⟨W.heap.size, 0, none⟩ 1 1 [.int .i64 x.2] rfl rfl (cell_one_new _ _ _) (fun u hu => by simp at hu; subst hu; rfl) HB1.out HB2.out HB3.out ?_); intro v' w9 hown' hgrow _; obtain ⟨g', cap', rfl⟩ := ownsRow_succ hown'; obtain ⟨hv1, hv2, hr2, hk2, hb2⟩ := HVV.out.appended (by decide) HW9.out hn1 (by omega) hown' hgrow; have hc1 := hv1.cell; have hf1 := hv1.frozen)
        have hbs2 : Boxed w9 w4.heap.size 33 (.slice ka (ints (es[i]).kids).length kc) := (hbs9.alloc _).kept hgrow (hbs9.not_row (by decide) HW9.out)
        have hbs3 := hbs2.other hOBn (.slice (some ⟨g', 0, none⟩) (st0.length + pre.length + 1) cap')
        have hor2 := (hord.alloc (.cells #[.int .i64 x.2] 3)).kept hgrow (.inr (fun e => by
          have := (HW9.out.lt w.heap.size e.symm).1
          omega))
        have hor3 := hor2.kept (grownBy_setCell' w9 (w1.heap.size + 1) (.slice (some ⟨g', 0, none⟩) (st0.length + pre.length + 1) cap')) (.inr (fun e => by
          have e2 := Option.some.inj e
          change w.heap.size = w1.heap.size + 1 at e2
          omega))
        have hbm : Below w.heap.size W (w9.setCell ⟨w1.heap.size + 1, 0, none⟩ (.slice (some ⟨g', 0, none⟩) (st0.length + pre.length + 1) cap')) := hb2.mono (Nat.le_succ _)
        have hfl : (ints st0 ++ (pre ++ [x]).map (fun x => x.2)).map (Value.int .i64) = (ints st0 ++ pre.map (fun x => x.2)).map (Value.int .i64) ++ [.int .i64 x.2] := by simp
        have hll2 : st0.length + (pre ++ [x]).length = st0.length + pre.length + 1 := by simp; omega
        exact ⟨hk2.from _, ⟨hbm, hbs3.trans hbs9.symm⟩, ⟨_, hv2, by rw [hfl, hll2]; exact hr2, trivial⟩, hor3, hbs3, fun D hD => hk2.same D _ (hmk9 D hD) rfl, hB9.trans hbm⟩
      case done =>
        rintro D ys W hD rfl ⟨⟨v, hv, hrow, _⟩, hord, hbs9, hmk9, hB9⟩ hK
        gi_wp2
        have hki : (es[i]).kids = kidsS es i := (kids_at hil).symm
        have hnD : D ∉ Ds := fun hm => by
          have := hmkl D hm
          omega
        have hr := HR.out
        have hvl := hr.v.few
        rw [List.length_append, List.length_singleton] at hvl
        refine ⟨⟨vis ++ [i], st0 ++ (kidsS es i).reverse, vis.length + 1, v, { target := .collected D, args := #[] } :: ds, D :: Ds, _, _, _, _, _, _, _, _, _, _, _, _, _, _, _, _, _, _, _, _, _, _, _, _, _, _, _, _, _, _, _, _, _, _, _, _, rfl, by simp, ?_⟩, ?_⟩
        · refine ⟨by simp [hr.tg], List.nodup_cons.2 ⟨hnD, hr.nd⟩, fun D2 hD2 => ?_, ?_, hv, ?_, hr.v.step hw ht, ?_, hB9⟩
          · rw [List.mem_cons] at hD2
            rcases hD2 with rfl | hD2
            · exact ⟨by omega, hK⟩
            · exact ⟨(hr.marks D2 hD2).1, hmk9 D2 hD2⟩
          · rw [ints_snoc, List.length_append]
            exact hord
          · rw [← hki, List.length_append, List.length_reverse]
            rw [upto_length] at hrow
            have e1 : (ints (es[i]).kids).length = (es[i]).kids.length := by simp [ints]
            rw [upto_rev, e1] at hrow
            have e2 : ints st0 ++ (ints (es[i]).kids).reverse = ints (st0 ++ (es[i]).kids.reverse) := by simp [ints]
            rw [e2] at hrow
            exact hrow
          · have hq := hr.q
            obtain ⟨m, hm⟩ : ∃ m, N - vis.length = m + 1 := ⟨N - vis.length - 1, by omega⟩
            rw [hm, ord_step] at hq
            rw [List.length_append, List.length_singleton, show N - (vis.length + 1) = m by omega, List.append_assoc, List.singleton_append]
            exact hq
        · show N - (vis.length + 1) < N - vis.length
          omega
      case stop =>
        rintro D cc pre W _ _ h _
        exact h.elim
end Go.Proofs.YtlkfibjbfnaagaaDoor
