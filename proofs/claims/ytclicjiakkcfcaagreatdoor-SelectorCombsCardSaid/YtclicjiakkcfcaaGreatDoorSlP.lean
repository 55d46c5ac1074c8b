import Derived.Test.YtclicjiakkcfcaaGreatDoorSlL
import Derived.StillTailTactics
import Derived.Deep.RegionHeld3
import Derived.Deep.RegionWith
set_option maxRecDepth 100000
set_option maxHeartbeats 3200000
namespace Go.Proofs.YtclicjiakkcfcaaGreatDoor
open Go.RowKit
theorem rdG.sets2 {w : World} {B C g : Nat} {d : Dt} {u : Value} (h : rdG w (fun b => B ≤ b) d u) (hg : g < B) (hB : C ≤ B) (vs : List Value) : rdG (w.setCells g 0 vs) (fun b => C ≤ b) d u :=
 rdG.move (fun b _ hb => Nat.le_trans hB hb) (fun b hb _ => setsW_other (Nat.ne_of_gt (Nat.lt_of_lt_of_le hg hb)) vs 0 w) (by rw [setsW_size]; exact Nat.le_refl _) d u h
theorem sclass_fn {P : Nat → Prop} {w0 w : World} {b : Nat} {v : Value} {l : List Nd} {dp : Int} {i : Nat} {fn : FnS} (h : SN P w0 b v l dp i w) (hi : i < 1000000000) (hx : txD l) (ht : TabL w) (hbt : TabFar b) (hd0 : 0 ≤ dp) (hd1 : dp ≤ 10) (hF : FnOk fn (dp + 1)) (h1 : ((atK (l.drop i) 0).tok.kind == 1) = false) (h2 : ((atK (l.drop i) 0).tok.kind == 2) = true) :
    Calls Tryz.prog 81 #[.pointer (some ⟨b, 0, none⟩)] w (ClassPost P w0 b v l dp i w.heap.size (classW fn (l.drop i)).1) := by
  have HB := Lib.hid ((Below.refl w.heap.size w).alloc (Nat.le_refl _) (.cells simZ 72))
  have HZ := Lib.hid (CB.new (T := 72) w simZ)
  have HS0 := Lib.hid (h.below HB.out)
  have HGS : Hid (w0.heap.size ≤ w.heap.size) := h.gw.size
  have hxt := atK_tx hx.top i 0
  have hks := szL_atK h.ll i 0
  have hkx := hx.at i 0
  have HC := Lib.hid (stake_any HS0.out.now hi)
  have HT := Lib.hid (ht.below HB.out)
  have HF := Lib.hid hF
  have hbw := h.wk.lt
  have hw1 : wrap64 (dp + 1) = dp + 1 := by unfold wrap64; omega
  have hw2 : IntKind.i64.wrap (dp + 1) = dp + 1 := by rw [IntKind.wrap_i64]; omega
  have hsz0 : (w.alloc (.cells simZ 72)).heap.size = w.heap.size + 1 := by simp
  unfold TakePost at HC
  obtain ⟨K, hK⟩ : ∃ K, kindOfS (lowS (atK (l.drop i) 0).tok.text) = K := ⟨_, rfl⟩
  have HE : Hid ((classW fn (l.drop i)).1 = _) := class_2 h1 h2
  rw [HE.out, hK]
  clear h HE hx ht hF
  unfold ClassPost
  generalize atK (l.drop i) 0 = nd at *
  obtain ⟨t, k⟩ := nd
  simp only [Nd.tok, Nd.kids] at HC h1 h2 hxt hK hks hkx ⊢
  have HK := Lib.hid hK
  clear hK
  go_enter Tryz.func81, Tryz.ntmps81
  go_upto_region 1 with fail
  generalize w.alloc (.cells simZ 72) = W0 at *
  go_upto_region 2 with (go_at_call 78; refine HC.out.mono ?_; rintro e w1 ⟨⟨u, rfl, hu⟩, hs1⟩; simp only [Nd.tok, Nd.kids] at hu ⊢; obtain ⟨ua, uc, rfl, _⟩ := hu.shape; have hbn := (Below.refl w1.heap.size w1).alloc (Nat.le_refl _) (.cells (nodS t (.slice ua k.length uc)) 96); have HN2 := Lib.hid (CB.new (T := 96) w1 (nodS t (.slice ua k.length uc))); have HZ2 := Lib.hid ((HZ.out.gw hs1.gw (show w.heap.size ≠ b by omega)).alloc (.cells (nodS t (.slice ua k.length uc)) 96)); have HT2 := Lib.hid ((HT.out.gw hs1.gw hbt).below hbn); have HS2 := Lib.hid ((HS0.out.since hs1).below hbn); have HU2 := Lib.hid (hu.under hbn (Nat.le_refl _)); clear hs1 hu hbn)
  generalize w1.alloc (.cells _ 96) = W2 at *
  have n1 : W2.cell? ⟨w1.heap.size, 1, none⟩ = some (.string t.text) := HN2.out.cell 1
  go_upto_region 7 with (first | (go_at_call 67; refine (lower_any _ _ hxt).mono ?_; rintro e w3 ⟨rfl, hb3⟩; have HN3 := Lib.hid (HN2.out.below hb3 HN2.out.lt); have HZ3 := Lib.hid (HZ2.out.below hb3 HZ2.out.lt); have HT3 := Lib.hid (HT2.out.below hb3); have HS3 := Lib.hid (HS2.out.below hb3); have HU3 := Lib.hid (HU2.out.under hb3 (Nat.le_refl _)); have hz3 := hb3.size; clear hb3) | (go_at_call 88; refine (kindOfL_any _ _ HT3.out).mono ?_; rintro e w4 ⟨rfl, hb4⟩; rw [HK.out]; have HN4 := Lib.hid (HN3.out.below hb4 HN3.out.lt); have HZ4 := Lib.hid (HZ3.out.below hb4 HZ3.out.lt); have HS4 := Lib.hid (HS3.out.below hb4); have n0 : w4.cell? ⟨w1.heap.size, 0, none⟩ = some (.int .i64 t.kind) := HN4.out.cell 0; have n6 : w4.cell? ⟨w1.heap.size, 6, none⟩ = some (.slice ua k.length uc) := HN4.out.cell 6; have HU4 := Lib.hid (HU3.out.under hb4 (Nat.le_refl _)); have HT4 := Lib.hid (HT3.out.below hb4); have c2 := HS4.out.wk.c2; clear hb4))
  have HUD := Lib.hid (HU4.out.under ((Below.refl w4.heap.size w4).drew) (Nat.le_refl _))
  have HTD := Lib.hid (HT4.out.below ((Below.refl w4.heap.size w4).drew))
  have HSD := Lib.hid HS4.out.drew
  have HZD := Lib.hid (show CB 72 w4.drew w.heap.size simZ from HZ4.out)
  have hzl : w.heap.size < w4.heap.size := HZ4.out.lt
  go_region_with (go_at_call 89; (refine (HF.out P w4.drew _ k K HUD.out hks hkx HTD.out).mono ?_); rintro e w5 ⟨⟨k', n', o', x', f', a', b', L, u', rfl, hr, hq⟩, hb5⟩; obtain ⟨ya, yc, rfl, _⟩ := hr.shape; have HZ5 := Lib.hid (HZD.out.below hb5 HZD.out.lt); have HS5 := Lib.hid (HSD.out.below hb5); have HR5 := Lib.hid hr; clear hr hb5; have o0' := HZ5.out.cell 0; have p0' := HZ5.out.frozen 0; have o1' := HZ5.out.cell 1; have p1' := HZ5.out.frozen 1; have o2' := HZ5.out.cell 2; have p2' := HZ5.out.frozen 2; have o3' := HZ5.out.cell 3; have p3' := HZ5.out.frozen 3; have o4' := HZ5.out.cell 4; have p4' := HZ5.out.frozen 4; have o5' := HZ5.out.cell 5; have p5' := HZ5.out.frozen 5; have o6' := HZ5.out.cell 6; have p6' := HZ5.out.frozen 6; have o7' := HZ5.out.cell 7; have p7' := HZ5.out.frozen 7)
  all_goals have HFF : Hid (CB 72 (w5.setCells w.heap.size 0 (simC k' n' o' x' f' a' b' (.slice ya (cxsDt L).length yc)).toList) w.heap.size (simC k' n' o' x' f' a' b' (.slice ya (cxsDt L).length yc))) := CB.sim HZ5.out
  all_goals have HST := Lib.hid (rdG.sets2 (C := w.heap.size) HR5.out (show w.heap.size < w4.drew.heap.size from hzl) (Nat.le_of_lt hzl) (simC k' n' o' x' f' a' b' (.slice ya (cxsDt L).length yc)).toList)
  all_goals have HSF := Lib.hid (SN.sets HS5.out HGS.out (simC k' n' o' x' f' a' b' (.slice ya (cxsDt L).length yc)).toList 0 _ HS5.out)
  all_goals go_wp2
  all_goals exact bodyPost_ret (v := .tuple #[.agg (simC k' n' o' x' f' a' b' (.slice ya (cxsDt L).length yc)), .bool (fn K k).isSome]) (results_cellT (by rfl) _ _ w.heap.size _ _ _ _ _ (by rfl) (by rfl) HFF.out Tryz.underlying72 (by rfl) sim_size) rfl ⟨⟨k', n', o', x', f', a', b', L, _, rfl, HST.out, hq⟩, HSF.out⟩
theorem sclass_any {P : Nat → Prop} {w0 w : World} {b : Nat} {v : Value} {l : List Nd} {dp : Int} {i : Nat} {fn : FnS} (h : SN P w0 b v l dp i w) (hi : i < 1000000000) (hx : txD l) (ht : TabL w) (hbt : TabFar b) (hd0 : 0 ≤ dp) (hd1 : dp ≤ 10) (hF : FnOk fn (dp + 1)) :
    Calls Tryz.prog 81 #[.pointer (some ⟨b, 0, none⟩)] w (ClassPost P w0 b v l dp i w.heap.size (classW fn (l.drop i)).1) := by
  cases h2 : ((atK (l.drop i) 0).tok.kind == 2)
  · exact sclass_plain h hi hx.top ht hbt h2
  · exact sclass_fn h hi hx ht hbt hd0 hd1 hF (by rw [eq_of_beq h2]; rfl) h2
theorem simple_class {fn : FnS} {r : List Nd} (h4 : (kindA r 0 == 4) = false) (h9 : (kindA r 0 == 9) = false) (h19 : (kindA r 0 == 19) = false) : simpleW fn r = classW fn r.tail := by
 unfold simpleW
 rw [if_neg (by rw [h4]; decide), if_neg (by rw [h9]; decide), if_neg (by rw [h19]; decide)]
theorem simple_dot {fn : FnS} {r : List Nd} (h4 : (kindA r 0 == 4) = false) (h9 : (kindA r 0 == 9) = true) : simpleW fn r = (if (identR r.tail).2.1 = true then some (.mk 2 (identR r.tail).1 ⟨#[]⟩ ⟨#[]⟩ false 0 0 []) else none, (identR r.tail).2.2) := by
 unfold simpleW
 rw [if_neg (by rw [h4]; decide), if_pos h9]
theorem simp_row (k : Int) (n : ByteArray) (t : Bool) (Q : Nat → Prop) (w' : World) : SimPost Q (if t = true then some (.mk k n ⟨#[]⟩ ⟨#[]⟩ false 0 0 []) else none) (.returned (.tuple #[.agg (simC k n ⟨#[]⟩ ⟨#[]⟩ false 0 0 (.slice none 0 0)), .bool t])) w' := by
 cases t
 · exact simPost_no _ _ _ _ _ _ _ _ _ _ _
 · exact simPost_yes _ _ _ _ _ _ _ _ _ _ _
def SimplePost (P : Nat → Prop) (w0 : World) (b : Nat) (v : Value) (l : List Nd) (dp : Int) (i : Nat) (B : Nat) (r : Option SmD × List Nd) (e : Ending) (w' : World) : Prop := SimPost (fun g => B ≤ g) r.1 e w' ∧ ∃ j, i < j ∧ j ≤ i + 2 ∧ r.2 = l.drop j ∧ SN P w0 b v l dp j w'
theorem ssimple_dot {P : Nat → Prop} {w0 w : World} {b : Nat} {v : Value} {l : List Nd} {dp : Int} {i : Nat} {fn : FnS} (h : SN P w0 b v l dp i w) (hi : i + 1 < 1000000000) (hx : txD l) (ht : TabL w) (hbt : TabFar b) (h4 : (kindA (l.drop i) 0 == 4) = false) (h9 : (kindA (l.drop i) 0 == 9) = true) :
    Calls Tryz.prog 63 #[.pointer (some ⟨b, 0, none⟩)] w (SimplePost P w0 b v l dp i w.heap.size (simpleW fn (l.drop i))) := by
  have HB := Lib.hid ((Below.refl w.heap.size w).alloc (Nat.le_refl _) (.cells simZ 72))
  have HZ := Lib.hid (CB.new (T := 72) w simZ)
  have HS0 := Lib.hid (h.below HB.out)
  have HGS : Hid (w0.heap.size ≤ w.heap.size) := h.gw.size
  have hks := szL_atK h.ll i 0
  have hkx := hx.at i 0
  have HC := Lib.hid (stake_any HS0.out.now (show i < 1000000000 by omega))
  have HT := Lib.hid (ht.below HB.out)
  have hbw := h.wk.lt
  unfold TakePost at HC
  have HE : Hid ((simpleW fn (l.drop i)).1 = _) := congrArg Prod.fst (simple_dot h4 h9)
  have HE2 : Hid ((simpleW fn (l.drop i)).2 = _) := congrArg Prod.snd (simple_dot h4 h9)
  have HI := Lib.hid (fun (W : World) (w0' : World) (hW : SN P w0' b v l dp (i + 1) W) => sident_any hW hi)
  have hj := idI_le l (i + 1)
  rw [tailK, ident_rest] at HE2
  rw [tailK] at HE
  replace h4 : ((atK (l.drop i) 0).tok.kind == 4) = false := h4
  replace h9 : ((atK (l.drop i) 0).tok.kind == 9) = true := h9
  generalize (identR (l.drop (i + 1))).1 = X at *
  generalize (identR (l.drop (i + 1))).2.1 = Y at *
  generalize idI l (i + 1) = j at *
  have HSP := Lib.hid (simp_row 2 X Y)
  generalize (if Y = true then some (SmD.mk 2 X ⟨#[]⟩ ⟨#[]⟩ false 0 0 []) else none) = R at *
  unfold SimplePost
  rw [HE.out, HE2.out]
  clear h HE HE2 hx ht
  generalize atK (l.drop i) 0 = nd at *
  obtain ⟨t, k⟩ := nd
  simp only [Nd.tok, Nd.kids] at *
  go_enter Tryz.func63, Tryz.ntmps63
  go_upto_region 1 with fail
  generalize w.alloc (.cells simZ 72) = W0 at *
  go_upto_region 2 with (go_at_call 78; refine HC.out.mono ?_; rintro e w1 ⟨⟨u, rfl, hu⟩, hs1⟩; simp only [Nd.tok, Nd.kids] at hu ⊢; obtain ⟨ua, uc, rfl, _⟩ := hu.shape; have hbn := (Below.refl w1.heap.size w1).alloc (Nat.le_refl _) (.cells (nodS t (.slice ua k.length uc)) 96); have HN2 := Lib.hid (CB.new (T := 96) w1 (nodS t (.slice ua k.length uc))); have HZ2 := Lib.hid ((HZ.out.gw hs1.gw (show w.heap.size ≠ b by omega)).alloc (.cells (nodS t (.slice ua k.length uc)) 96)); have HT2 := Lib.hid ((HT.out.gw hs1.gw hbt).below hbn); have HS2 := Lib.hid ((HS0.out.since hs1).below hbn); have HU2 := Lib.hid (hu.under hbn (Nat.le_refl _)); clear hs1 hu hbn)
  generalize w1.alloc (.cells _ 96) = W2 at *
  have n0 : W2.cell? ⟨w1.heap.size, 0, none⟩ = some (.int .i64 t.kind) := HN2.out.cell 0
  go_wp2_with (first | (have hbb := HTH.out; refine wpList_store_mid (by rfl) 72 (.tmp 2) (.tmp 29) (by rfl) w.heap.size 0 (simC 2 X ⟨#[]⟩ ⟨#[]⟩ false 0 0 (.slice none 0 0)) (by rfl) (by rfl) HTH.out sim_size (sim_one _ _ _ _ _ _ _ _ _ _) ?_; have HFF : Hid (CB 72 (w5.setCells w.heap.size 0 (simC 2 X ⟨#[]⟩ ⟨#[]⟩ false 0 0 (.slice none 0 0)).toList) w.heap.size (simC 2 X ⟨#[]⟩ ⟨#[]⟩ false 0 0 (.slice none 0 0))) := CB.sim HZ5.out; have HSF := Lib.hid (SN.sets HS5.out HGS.out (simC 2 X ⟨#[]⟩ ⟨#[]⟩ false 0 0 (.slice none 0 0)).toList 0 _ HS5.out); generalize w5.setCells w.heap.size 0 (simC 2 X ⟨#[]⟩ ⟨#[]⟩ false 0 0 (.slice none 0 0)).toList = W1 at *) | (go_at_call 79; (refine (HI.out W2 W2 HS2.out.now).mono ?_); rintro e w5 ⟨rfl, hs5⟩; have HS5 := Lib.hid (HS2.out.since hs5); have HZ5 := Lib.hid (HZ2.out.gw hs5.gw (show w.heap.size ≠ b by omega)); have HTH := Lib.hid (cbW_there HZ5.out (n := 8) rfl); clear hs5))
  exact bodyPost_ret (v := .tuple #[.agg (simC 2 X ⟨#[]⟩ ⟨#[]⟩ false 0 0 (.slice none 0 0)), .bool Y]) (results_cellT (by rfl) _ _ w.heap.size _ _ _ _ _ (by rfl) (by rfl) HFF.out Tryz.underlying72 (by rfl) sim_size) rfl ⟨HSP.out _ _, j, by omega, by omega, rfl, HSF.out⟩
theorem ssimple_class {P : Nat → Prop} {w0 w : World} {b : Nat} {v : Value} {l : List Nd} {dp : Int} {i : Nat} {fn : FnS} (h : SN P w0 b v l dp i w) (hi : i + 1 < 1000000000) (hx : txD l) (ht : TabL w) (hbt : TabFar b) (hd0 : 0 ≤ dp) (hd1 : dp ≤ 10) (hF : FnOk fn (dp + 1)) (h4 : (kindA (l.drop i) 0 == 4) = false) (h9 : (kindA (l.drop i) 0 == 9) = false) (h19 : (kindA (l.drop i) 0 == 19) = false) :
    Calls Tryz.prog 63 #[.pointer (some ⟨b, 0, none⟩)] w (SimplePost P w0 b v l dp i w.heap.size (simpleW fn (l.drop i))) := by
  have HB := Lib.hid ((Below.refl w.heap.size w).alloc (Nat.le_refl _) (.cells simZ 72))
  have HZ := Lib.hid (CB.new (T := 72) w simZ)
  have HS0 := Lib.hid (h.below HB.out)
  have HGS : Hid (w0.heap.size ≤ w.heap.size) := h.gw.size
  have hks := szL_atK h.ll i 0
  have hkx := hx.at i 0
  have HC := Lib.hid (stake_any HS0.out.now (show i < 1000000000 by omega))
  have HT := Lib.hid (ht.below HB.out)
  have hbw := h.wk.lt
  unfold TakePost at HC
  have HE : Hid ((simpleW fn (l.drop i)).1 = _) := congrArg Prod.fst (simple_class h4 h9 h19)
  have HE2 : Hid ((simpleW fn (l.drop i)).2 = _) := congrArg Prod.snd (simple_class h4 h9 h19)
  have HCL := Lib.hid (fun (W : World) (hW : SN P W b v l dp (i + 1) W) (hT : TabL W) => sclass_any (fn := fn) hW hi hx hT hbt hd0 hd1 hF)
  rw [tailK, show (classW fn (l.drop (i + 1))).2 = l.drop (i + 2) from tailK l (i + 1)] at HE2
  rw [tailK] at HE
  unfold ClassPost at HCL
  replace h4 : ((atK (l.drop i) 0).tok.kind == 4) = false := h4
  replace h9 : ((atK (l.drop i) 0).tok.kind == 9) = false := h9
  replace h19 : ((atK (l.drop i) 0).tok.kind == 19) = false := h19
  generalize (classW fn (l.drop (i + 1))).1 = R at *
  unfold SimplePost
  rw [HE.out, HE2.out]
  clear h HE HE2 hx ht
  generalize atK (l.drop i) 0 = nd at *
  obtain ⟨t, k⟩ := nd
  simp only [Nd.tok, Nd.kids] at *
  go_enter Tryz.func63, Tryz.ntmps63
  go_upto_region 1 with fail
  generalize w.alloc (.cells simZ 72) = W0 at *
  go_upto_region 2 with (go_at_call 78; refine HC.out.mono ?_; rintro e w1 ⟨⟨u, rfl, hu⟩, hs1⟩; simp only [Nd.tok, Nd.kids] at hu ⊢; obtain ⟨ua, uc, rfl, _⟩ := hu.shape; have hbn := (Below.refl w1.heap.size w1).alloc (Nat.le_refl _) (.cells (nodS t (.slice ua k.length uc)) 96); have HN2 := Lib.hid (CB.new (T := 96) w1 (nodS t (.slice ua k.length uc))); have HZ2 := Lib.hid ((HZ.out.gw hs1.gw (show w.heap.size ≠ b by omega)).alloc (.cells (nodS t (.slice ua k.length uc)) 96)); have HT2 := Lib.hid ((HT.out.gw hs1.gw hbt).below hbn); have HS2 := Lib.hid ((HS0.out.since hs1).below hbn); have HU2 := Lib.hid (hu.under hbn (Nat.le_refl _)); clear hs1 hu hbn)
  generalize w1.alloc (.cells _ 96) = W2 at *
  have n0 : W2.cell? ⟨w1.heap.size, 0, none⟩ = some (.int .i64 t.kind) := HN2.out.cell 0
  go_wp2_with (first | (have hbb := HTH.out; refine wpList_store_mid (by rfl) 72 (.tmp 2) (.tmp 40) (by rfl) w.heap.size 0 (simC k' n' o' x' f' a' b' (.slice ya (cxsDt L).length yc)) (by rfl) (by rfl) HTH.out sim_size (sim_one _ _ _ _ _ _ _ _ _ _) ?_; have HFF : Hid (CB 72 (w5.setCells w.heap.size 0 (simC k' n' o' x' f' a' b' (.slice ya (cxsDt L).length yc)).toList) w.heap.size (simC k' n' o' x' f' a' b' (.slice ya (cxsDt L).length yc))) := CB.sim HZ5.out; have HST := Lib.hid (rdG.sets2 (C := w.heap.size) HR5.out HLT.out (Nat.le_of_lt HLT.out) (simC k' n' o' x' f' a' b' (.slice ya (cxsDt L).length yc)).toList); have HSF := Lib.hid (SN.sets HS5.out HGS.out (simC k' n' o' x' f' a' b' (.slice ya (cxsDt L).length yc)).toList 0 _ HS5.out); generalize w5.setCells w.heap.size 0 (simC k' n' o' x' f' a' b' (.slice ya (cxsDt L).length yc)).toList = W1 at *) | (go_at_call 81; (refine (HCL.out W2 HS2.out.now HT2.out).mono ?_); rintro e w5 ⟨⟨k', n', o', x', f', a', b', L, u', rfl, hr, hq⟩, hs5⟩; obtain ⟨ya, yc, rfl, _⟩ := hr.shape; have HS5 := Lib.hid (HS2.out.since hs5); have HZ5 := Lib.hid (HZ2.out.gw hs5.gw (show w.heap.size ≠ b by omega)); have HLT := Lib.hid (show w.heap.size < W2.heap.size from HZ2.out.lt); have HR5 := Lib.hid hr; have HTH := Lib.hid (cbW_there HZ5.out (n := 8) rfl); clear hr hs5))
  exact bodyPost_ret (v := .tuple #[.agg (simC k' n' o' x' f' a' b' (.slice ya (cxsDt L).length yc)), .bool R.isSome]) (results_cellT (by rfl) _ _ w.heap.size _ _ _ _ _ (by rfl) (by rfl) HFF.out Tryz.underlying72 (by rfl) sim_size) rfl ⟨⟨k', n', o', x', f', a', b', L, _, rfl, HST.out, hq⟩, i + 2, by omega, by omega, rfl, HSF.out⟩
theorem simple_attr {fn : FnS} {r : List Nd} (h4 : (kindA r 0 == 4) = false) (h9 : (kindA r 0 == 9) = false) (h19 : (kindA r 0 == 19) = true) : simpleW fn r = (attrS (atK r 0).kids, r.tail) := by
 unfold simpleW
 rw [if_neg (by rw [h4]; decide), if_neg (by rw [h9]; decide), if_pos h19]
theorem simple_hash {fn : FnS} {r : List Nd} (h4 : (kindA r 0 == 4) = true) : simpleW fn r = (if (atK r 0).tok.id = true then some (.mk 1 (atK r 0).tok.text ⟨#[]⟩ ⟨#[]⟩ false 0 0 []) else none, r.tail) := if_pos h4
def AttrOk : Prop := ∀ (P : Nat → Prop) (w : World) (v : Value) (l : List Nd), RdN w P v l → szL l ≤ 100000000 → txD l → TabL w →
  Calls Tryz.prog 80 #[v] w fun e w' => SimPost (fun g => w.heap.size ≤ g) (attrS l) e w' ∧ Below w.heap.size w w'
theorem ssimple_attr {P : Nat → Prop} {w0 w : World} {b : Nat} {v : Value} {l : List Nd} {dp : Int} {i : Nat} {fn : FnS} (h : SN P w0 b v l dp i w) (hi : i + 1 < 1000000000) (hx : txD l) (ht : TabL w) (hbt : TabFar b) (hA : AttrOk) (h4 : (kindA (l.drop i) 0 == 4) = false) (h9 : (kindA (l.drop i) 0 == 9) = false) (h19 : (kindA (l.drop i) 0 == 19) = true) :
    Calls Tryz.prog 63 #[.pointer (some ⟨b, 0, none⟩)] w (SimplePost P w0 b v l dp i w.heap.size (simpleW fn (l.drop i))) := by
  have HB := Lib.hid ((Below.refl w.heap.size w).alloc (Nat.le_refl _) (.cells simZ 72))
  have HZ := Lib.hid (CB.new (T := 72) w simZ)
  have HS0 := Lib.hid (h.below HB.out)
  have HGS : Hid (w0.heap.size ≤ w.heap.size) := h.gw.size
  have hks := szL_atK h.ll i 0
  have hkx := hx.at i 0
  have HC := Lib.hid (stake_any HS0.out.now (show i < 1000000000 by omega))
  have HT := Lib.hid (ht.below HB.out)
  have hbw := h.wk.lt
  unfold TakePost at HC
  have HE : Hid ((simpleW fn (l.drop i)).1 = _) := congrArg Prod.fst (simple_attr h4 h9 h19)
  have HE2 : Hid ((simpleW fn (l.drop i)).2 = _) := congrArg Prod.snd (simple_attr h4 h9 h19)
  have HA := Lib.hid hA
  rw [tailK] at HE2
  replace h4 : ((atK (l.drop i) 0).tok.kind == 4) = false := h4
  replace h9 : ((atK (l.drop i) 0).tok.kind == 9) = false := h9
  replace h19 : ((atK (l.drop i) 0).tok.kind == 19) = true := h19
  unfold SimplePost
  rw [HE.out, HE2.out]
  clear h HE HE2 hx ht
  generalize atK (l.drop i) 0 = nd at *
  obtain ⟨t, k⟩ := nd
  simp only [Nd.tok, Nd.kids] at *
  go_enter Tryz.func63, Tryz.ntmps63
  go_upto_region 1 with fail
  generalize w.alloc (.cells simZ 72) = W0 at *
  go_upto_region 2 with (go_at_call 78; refine HC.out.mono ?_; rintro e w1 ⟨⟨u, rfl, hu⟩, hs1⟩; simp only [Nd.tok, Nd.kids] at hu ⊢; obtain ⟨ua, uc, rfl, _⟩ := hu.shape; have hbn := (Below.refl w1.heap.size w1).alloc (Nat.le_refl _) (.cells (nodS t (.slice ua k.length uc)) 96); have HN2 := Lib.hid (CB.new (T := 96) w1 (nodS t (.slice ua k.length uc))); have HZ2 := Lib.hid ((HZ.out.gw hs1.gw (show w.heap.size ≠ b by omega)).alloc (.cells (nodS t (.slice ua k.length uc)) 96)); have HT2 := Lib.hid ((HT.out.gw hs1.gw hbt).below hbn); have HS2 := Lib.hid ((HS0.out.since hs1).below hbn); have HU2 := Lib.hid (hu.under hbn (Nat.le_refl _)); clear hs1 hu hbn)
  generalize w1.alloc (.cells _ 96) = W2 at *
  have n0 : W2.cell? ⟨w1.heap.size, 0, none⟩ = some (.int .i64 t.kind) := HN2.out.cell 0
  have n6 : W2.cell? ⟨w1.heap.size, 6, none⟩ = some (.slice ua k.length uc) := HN2.out.cell 6
  go_wp2_with (first | (have hbb := HTH.out; refine wpList_store_mid (by rfl) 72 (.tmp 2) (.tmp 36) (by rfl) w.heap.size 0 (simC k' n' o' x' f' a' b' (.slice ya (cxsDt L).length yc)) (by rfl) (by rfl) HTH.out sim_size (sim_one _ _ _ _ _ _ _ _ _ _) ?_; have HFF : Hid (CB 72 (w5.setCells w.heap.size 0 (simC k' n' o' x' f' a' b' (.slice ya (cxsDt L).length yc)).toList) w.heap.size (simC k' n' o' x' f' a' b' (.slice ya (cxsDt L).length yc))) := CB.sim HZ5.out; have HST := Lib.hid (rdG.sets2 (C := w.heap.size) HR5.out HLT.out (Nat.le_of_lt HLT.out) (simC k' n' o' x' f' a' b' (.slice ya (cxsDt L).length yc)).toList); have HSF := Lib.hid (SN.sets HS5.out HGS.out (simC k' n' o' x' f' a' b' (.slice ya (cxsDt L).length yc)).toList 0 _ HS5.out); generalize w5.setCells w.heap.size 0 (simC k' n' o' x' f' a' b' (.slice ya (cxsDt L).length yc)).toList = W1 at *) | (go_at_call 80; (refine (HA.out P W2 _ k HU2.out hks hkx HT2.out).mono ?_); rintro e w5 ⟨⟨k', n', o', x', f', a', b', L, u', rfl, hr, hq⟩, hb5⟩; obtain ⟨ya, yc, rfl, _⟩ := hr.shape; have HS5 := Lib.hid (HS2.out.below hb5); have HZ5 := Lib.hid (HZ2.out.below hb5 HZ2.out.lt); have HLT := Lib.hid (show w.heap.size < W2.heap.size from HZ2.out.lt); have HR5 := Lib.hid hr; have HTH := Lib.hid (cbW_there HZ5.out (n := 8) rfl); clear hr hb5))
  exact bodyPost_ret (v := .tuple #[.agg (simC k' n' o' x' f' a' b' (.slice ya (cxsDt L).length yc)), .bool (attrS k).isSome]) (results_cellT (by rfl) _ _ w.heap.size _ _ _ _ _ (by rfl) (by rfl) HFF.out Tryz.underlying72 (by rfl) sim_size) rfl ⟨⟨k', n', o', x', f', a', b', L, _, rfl, HST.out, hq⟩, i + 1, by omega, by omega, rfl, HSF.out⟩
theorem ssimple_hash {P : Nat → Prop} {w0 w : World} {b : Nat} {v : Value} {l : List Nd} {dp : Int} {i : Nat} {fn : FnS} (h : SN P w0 b v l dp i w) (hi : i + 1 < 1000000000) (h4 : (kindA (l.drop i) 0 == 4) = true) :
    Calls Tryz.prog 63 #[.pointer (some ⟨b, 0, none⟩)] w (SimplePost P w0 b v l dp i w.heap.size (simpleW fn (l.drop i))) := by
  have HB := Lib.hid ((Below.refl w.heap.size w).alloc (Nat.le_refl _) (.cells simZ 72))
  have HZ := Lib.hid (CB.new (T := 72) w simZ)
  have HS0 := Lib.hid (h.below HB.out)
  have HGS : Hid (w0.heap.size ≤ w.heap.size) := h.gw.size
  have HC := Lib.hid (stake_any HS0.out.now (show i < 1000000000 by omega))
  have hbw := h.wk.lt
  unfold TakePost at HC
  have HE : Hid ((simpleW fn (l.drop i)).1 = _) := congrArg Prod.fst (simple_hash h4)
  have HE2 : Hid ((simpleW fn (l.drop i)).2 = _) := congrArg Prod.snd (simple_hash h4)
  rw [tailK] at HE2
  replace h4 : ((atK (l.drop i) 0).tok.kind == 4) = true := h4
  have HSP := Lib.hid (simp_row 1 (atK (l.drop i) 0).tok.text (atK (l.drop i) 0).tok.id)
  generalize (if (atK (l.drop i) 0).tok.id = true then some (SmD.mk 1 (atK (l.drop i) 0).tok.text ⟨#[]⟩ ⟨#[]⟩ false 0 0 []) else none) = R at *
  unfold SimplePost
  rw [HE.out, HE2.out]
  clear h HE HE2
  generalize atK (l.drop i) 0 = nd at *
  obtain ⟨t, k⟩ := nd
  simp only [Nd.tok, Nd.kids] at *
  go_enter Tryz.func63, Tryz.ntmps63
  go_upto_region 1 with fail
  generalize w.alloc (.cells simZ 72) = W0 at *
  go_upto_region 2 with (go_at_call 78; refine HC.out.mono ?_; rintro e w1 ⟨⟨u, rfl, hu⟩, hs1⟩; simp only [Nd.tok, Nd.kids] at hu ⊢; obtain ⟨ua, uc, rfl, _⟩ := hu.shape; have hbn := (Below.refl w1.heap.size w1).alloc (Nat.le_refl _) (.cells (nodS t (.slice ua k.length uc)) 96); have HN2 := Lib.hid (CB.new (T := 96) w1 (nodS t (.slice ua k.length uc))); have HZ2 := Lib.hid ((HZ.out.gw hs1.gw (show w.heap.size ≠ b by omega)).alloc (.cells (nodS t (.slice ua k.length uc)) 96)); have HS2 := Lib.hid ((HS0.out.since hs1).below hbn); have HNE := Lib.hid (Nat.lt_of_lt_of_le HZ.out.lt hs1.gw.size); clear hs1 hu hbn)
  generalize w1.alloc (.cells _ 96) = W2 at *
  have n0 : W2.cell? ⟨w1.heap.size, 0, none⟩ = some (.int .i64 t.kind) := HN2.out.cell 0
  go_upto_region 4 with fail
  clear n0
  have HZD := Lib.hid (show CB 72 W2.drew w.heap.size simZ from HZ2.out)
  have HSD := Lib.hid HS2.out.drew
  have m1 : W2.drew.cell? ⟨w1.heap.size, 1, none⟩ = some (.string t.text) := HN2.out.cell 1
  have m5 : W2.drew.cell? ⟨w1.heap.size, 5, none⟩ = some (.bool t.id) := HN2.out.cell 5
  refine wp_region_held_drew (S := fun W => W.cell? ⟨w1.heap.size, 1, none⟩ = some (.string t.text) ∧ W.cell? ⟨w1.heap.size, 5, none⟩ = some (.bool t.id)) (by kernel_rfl) ⟨m1, m5⟩ (fun hHeld => ?_)
  have hne1 : w1.heap.size ≠ w.heap.size := by have := HNE.out; omega
  clear m1 m5
  generalize W2.drew = W3 at *
  refine wTake 0 (v := ?_) rfl (Or.inl ⟨by rfl, ?_⟩) ?_
  rotate_left
  · intro W hSw
    have hSw1 := hSw.1
    have hSw2 := hSw.2
    go_simp
    all_goals with_reducible rfl
  try simp only [gA, gB, gC, gD, gE, gF, gG]
  refine wTake 1 (v := ?_) rfl (Or.inl ⟨by rfl, ?_⟩) ?_
  rotate_left
  · intro W hSw
    have hSw1 := hSw.1
    have hSw2 := hSw.2
    go_simp
    all_goals with_reducible rfl
  try simp only [gA, gB, gC, gD, gE, gF, gG]
  refine wTake 2 (v := ?_) rfl (Or.inl ⟨by rfl, ?_⟩) ?_
  rotate_left
  · intro W hSw
    have hSw1 := hSw.1
    have hSw2 := hSw.2
    go_simp
    all_goals with_reducible rfl
  try simp only [gA, gB, gC, gD, gE, gF, gG]
  refine wTake 3 (v := ?_) rfl (Or.inl ⟨by rfl, ?_⟩) ?_
  rotate_left
  · intro W hSw
    have hSw1 := hSw.1
    have hSw2 := hSw.2
    go_simp
    all_goals with_reducible rfl
  try simp only [gA, gB, gC, gD, gE, gF, gG]
  refine wTake 4 (v := ?_) rfl (Or.inl ⟨by rfl, ?_⟩) ?_
  rotate_left
  · intro W hSw
    have hSw1 := hSw.1
    have hSw2 := hSw.2
    go_simp
    all_goals with_reducible rfl
  try simp only [gA, gB, gC, gD, gE, gF, gG]
  refine wTake 5 (v := ?_) rfl (Or.inl ⟨by rfl, ?_⟩) ?_
  rotate_left
  · intro W hSw
    have hSw1 := hSw.1
    have hSw2 := hSw.2
    go_simp
    all_goals with_reducible rfl
  try simp only [gA, gB, gC, gD, gE, gF, gG]
  refine wTake 6 (v := ?_) rfl (Or.inl ⟨by rfl, ?_⟩) ?_
  rotate_left
  · intro W hSw
    have hSw1 := hSw.1
    have hSw2 := hSw.2
    go_simp
    all_goals with_reducible rfl
  try simp only [gA, gB, gC, gD, gE, gF, gG]
  refine wpAnyH_ready (rs := [7]) (by kernel_rfl) (by simp) ?_
  refine AllReadyH.cons (o := _) rfl (fun K hK => ?_) AllReadyH.nil
  simp only [List.getElem_toArray, List.getElem_cons_zero, List.getElem_cons_succ]
  rw [if_pos (by rfl)]
  refine wp_store_mid 72 (.tmp 2) (.tmp 17) rfl w.heap.size 0 (simC 1 t.text ⟨#[]⟩ ⟨#[]⟩ false 0 0 (.slice none 0 0)) rfl rfl (cbW_there HZD.out (n := 8) rfl) sim_size (sim_one _ _ _ _ _ _ _ _ _ _) ?_
  have HFF : Hid (CB 72 (W3.setCells w.heap.size 0 (simC 1 t.text ⟨#[]⟩ ⟨#[]⟩ false 0 0 (.slice none 0 0)).toList) w.heap.size (simC 1 t.text ⟨#[]⟩ ⟨#[]⟩ false 0 0 (.slice none 0 0))) := CB.sim HZD.out
  have HSF := Lib.hid (SN.sets HSD.out HGS.out (simC 1 t.text ⟨#[]⟩ ⟨#[]⟩ false 0 0 (.slice none 0 0)).toList 0 _ HSD.out)
  have hS2 : (W3.setCells w.heap.size 0 (simC 1 t.text ⟨#[]⟩ ⟨#[]⟩ false 0 0 (.slice none 0 0)).toList).cell? ⟨w1.heap.size, 1, none⟩ = some (.string t.text) ∧ (W3.setCells w.heap.size 0 (simC 1 t.text ⟨#[]⟩ ⟨#[]⟩ false 0 0 (.slice none 0 0)).toList).cell? ⟨w1.heap.size, 5, none⟩ = some (.bool t.id) := ⟨(World.cell?_of_block (a := ⟨w1.heap.size, 1, none⟩) (setsW_other hne1 _ 0 W3)).trans hHeld.1, (World.cell?_of_block (a := ⟨w1.heap.size, 5, none⟩) (setsW_other hne1 _ 0 W3)).trans hHeld.2⟩
  clear hHeld
  generalize W3.setCells w.heap.size 0 (simC 1 t.text ⟨#[]⟩ ⟨#[]⟩ false 0 0 (.slice none 0 0)).toList = W4 at *
  refine hK.out _ _ hS2 (fun hHeld => ?_)
  clear hK K
  try simp only [gA, gB, gC, gD, gE, gF, gG]
  refine wTake 8 (v := ?_) rfl (Or.inl ⟨by rfl, ?_⟩) ?_
  rotate_left
  · intro W hSw
    have hSw1 := hSw.1
    have hSw2 := hSw.2
    go_simp
    all_goals with_reducible rfl
  try simp only [gA, gB, gC, gD, gE, gF, gG]
  refine wpAnyH_done (by kernel_rfl) ?_ _
  go_wp2
  exact bodyPost_ret (v := .tuple #[.agg (simC 1 t.text ⟨#[]⟩ ⟨#[]⟩ false 0 0 (.slice none 0 0)), .bool t.id]) (results_cellT (by rfl) _ _ w.heap.size _ _ _ _ _ (by rfl) (by rfl) HFF.out Tryz.underlying72 (by rfl) sim_size) rfl ⟨HSP.out _ _, i + 1, by omega, by omega, rfl, HSF.out⟩
theorem ssimple_any {P : Nat → Prop} {w0 w : World} {b : Nat} {v : Value} {l : List Nd} {dp : Int} {i : Nat} {fn : FnS} (h : SN P w0 b v l dp i w) (hi : i + 1 < 1000000000) (hx : txD l) (ht : TabL w) (hbt : TabFar b) (hd0 : 0 ≤ dp) (hd1 : dp ≤ 10) (hF : FnOk fn (dp + 1)) (hA : AttrOk) :
    Calls Tryz.prog 63 #[.pointer (some ⟨b, 0, none⟩)] w (SimplePost P w0 b v l dp i w.heap.size (simpleW fn (l.drop i))) := by
  cases h4 : (kindA (l.drop i) 0 == 4)
  · cases h9 : (kindA (l.drop i) 0 == 9)
    · cases h19 : (kindA (l.drop i) 0 == 19)
      · exact ssimple_class h hi hx ht hbt hd0 hd1 hF h4 h9 h19
      · exact ssimple_attr h hi hx ht hbt hA h4 h9 h19
    · exact ssimple_dot h hi hx ht hbt h4 h9
  · exact ssimple_hash h hi h4
def SR (P : Nat → Prop) (w0 : World) (b : Nat) (v : Value) (l : List Nd) (dp : Int) (r : List Nd) (w : World) : Prop := ∃ i, i ≤ l.length + 1 ∧ r = l.drop i ∧ SN P w0 b v l dp i w
section
variable {P : Nat → Prop} {w0 w w' : World} {b : Nat} {v : Value} {l r r' : List Nd} {dp : Int}
theorem SR.now (h : SR P w0 b v l dp r w) : SR P w b v l dp r w := by
 obtain ⟨i, hi, hr, h⟩ := h
 exact ⟨i, hi, hr, h.now⟩
theorem SR.since (h : SR P w0 b v l dp r w) (h' : SR P w b v l dp r' w') : SR P w0 b v l dp r' w' := by
 obtain ⟨i, hi, hr, h⟩ := h
 obtain ⟨j, hj, hr', h'⟩ := h'
 exact ⟨j, hj, hr', h.since h'⟩
theorem SR.below (h : SR P w0 b v l dp r w) (hb : Below w.heap.size w w') : SR P w0 b v l dp r w' := by
 obtain ⟨i, hi, hr, h⟩ := h
 exact ⟨i, hi, hr, h.below hb⟩
theorem SR.drew (h : SR P w0 b v l dp r w) : SR P w0 b v l dp r w.drew := h.below (Below.refl w.heap.size w).drew
theorem SR.far (h : SR P w0 b v l dp r w) {p : Addr} (h1 : w0.heap.size ≤ p.block) (u : Value) : SR P w0 b v l dp r (w.setCell p u) := by
 obtain ⟨i, hi, hr, h⟩ := h
 exact ⟨i, hi, hr, h.far h1 u⟩
theorem SR.sets (h : SR P w0 b v l dp r w) {g : Nat} (hg : w0.heap.size ≤ g) (vs : List Value) : SR P w0 b v l dp r (w.setCells g 0 vs) := by
 obtain ⟨i, hi, hr, h⟩ := h
 exact ⟨i, hi, hr, SN.sets h hg vs 0 w h⟩
theorem SR.gw (h : SR P w0 b v l dp r w) : Gw b w0 w := by
 obtain ⟨i, hi, hr, h⟩ := h
 exact h.gw
theorem SR.ll (h : SR P w0 b v l dp r w) : szL l ≤ 100000000 := by
 obtain ⟨i, hi, hr, h⟩ := h
 exact h.ll
theorem ended_r (h : SR P w0 b v l dp r w) : Calls Tryz.prog 40 #[.pointer (some ⟨b, 0, none⟩)] w fun e w' => e = .returned (.bool r.isEmpty) ∧ Below w.heap.size w w' := by
 obtain ⟨i, hi, rfl, h⟩ := h
 exact sended_any h
theorem kind_r (h : SR P w0 b v l dp r w) (n : Nat) (hn : n ≤ 10) : Calls Tryz.prog 60 #[.pointer (some ⟨b, 0, none⟩), .int .i64 (n : Int)] w fun e w' => e = .returned (.int .i64 (kindA r n)) ∧ Below w.heap.size w w' := by
 obtain ⟨i, hi, rfl, h⟩ := h
 exact skind_any h n hn
theorem kind_0 (h : SR P w0 b v l dp r w) : Calls Tryz.prog 60 #[.pointer (some ⟨b, 0, none⟩), .int .i64 0] w fun e w' => e = .returned (.int .i64 (kindA r 0)) ∧ Below w.heap.size w w' := kind_r h 0 (by omega)
theorem white_r (h : SR P w0 b v l dp r w) : Calls Tryz.prog 37 #[.pointer (some ⟨b, 0, none⟩)] w fun e w' => e = .returned (.bool (kindA r 0 == 13)) ∧ SR P w b v l dp (whiteR r) w' := by
 obtain ⟨i, hi, rfl, h⟩ := h
 refine (swhite_any h.now).mono ?_
 rintro e w' ⟨he, j, hij, hw, hjl, hs⟩
 refine ⟨he, j, ?_, hw, hs⟩
 by_cases c : i < j
 · have := hjl c
   omega
 · omega
theorem lower_r (h : SR P w0 b v l dp r w) (hx : txD l) : Calls Tryz.prog 77 #[.pointer (some ⟨b, 0, none⟩)] w fun e w' => e = .returned (.tuple #[.string (lowerR r).1, .bool (lowerR r).2.1]) ∧ SR P w b v l dp (lowerR r).2.2 w' := by
 obtain ⟨i, hi, rfl, h⟩ := h
 refine (slower_any h.now (by have := h.len; omega) hx.top).mono ?_
 rintro e w' ⟨he, hs⟩
 refine ⟨he, idI l i, ?_, lower_rest l i, hs⟩
 unfold idI
 split
 · rename_i c
   have := kind_lt (l := l) (i := i) (n := 0) (fun e => by rw [e] at c; cases c)
   omega
 · exact hi
def opQ (r : List Nd) : List Nd := match opR r with
 | some (_, r') => r'
 | none => r
theorem op_r (h : SR P w0 b v l dp r w) (hx : txD l) : Calls Tryz.prog 87 #[.pointer (some ⟨b, 0, none⟩)] w fun e w' => e = .returned (.tuple #[.string (opT r).1, .bool (opT r).2]) ∧ SR P w b v l dp (opQ r) w' := by
 obtain ⟨i, hi, rfl, h⟩ := h
 refine (sop_any h.now (by have := h.len; omega) hx.top).mono ?_
 rintro e w' ⟨he, hs⟩
 refine ⟨he, opI l i, ?_, ?_, hs⟩
 · have := opI_le l i
   by_cases c : i < opI l i
   · have := this.2 c
     omega
   · omega
 · unfold opQ
   cases ho : opR (l.drop i) with
   | none =>
    have hII : opI l i = i := by
     unfold opR at ho
     unfold opI
     split at ho
     · cases ho
     · rename_i c
       rw [if_neg c]
       split at ho
       · cases ho
       · rename_i c2
         rw [if_neg c2]
    rw [hII]
   | some p =>
    obtain ⟨o, r'⟩ := p
    exact op_rest ho
theorem take_r (h : SR P w0 b v l dp r w) (hr : 0 < r.length) : Calls Tryz.prog 78 #[.pointer (some ⟨b, 0, none⟩)] w fun e w' => (∃ u, e = .returned (nval (atK r 0).tok u) ∧ RdN w' P u (atK r 0).kids) ∧ SR P w b v l dp r.tail w' := by
 obtain ⟨i, hi, rfl, h⟩ := h
 rw [List.length_drop] at hr
 refine (stake_any h.now (by have := h.len; omega)).mono ?_
 rintro e w' ⟨he, hs⟩
 exact ⟨he, i + 1, by omega, tailK l i, hs⟩
end
theorem SR.start {P : Nat → Prop} {W : World} {v : Value} {l : List Nd} (h : RdN W P v l) (hl : szL l ≤ 100000000) (dp : Int) :
    SR (fun k => P k ∧ k < W.heap.size) (W.alloc (.cells #[v, .int .i64 0, .int .i64 dp] 90)) W.heap.size v l dp l (W.alloc (.cells #[v, .int .i64 0, .int .i64 dp] 90)) := ⟨0, Nat.zero_le _, rfl, SN.start h hl dp⟩
end Go.Proofs.YtclicjiakkcfcaaGreatDoor
