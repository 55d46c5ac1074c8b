import Derived.Test.YtclicjiakkcfcaaGreatDoorSlY
import Derived.Test.YtclicjiakkcfcaaGreatDoorSlG
set_option maxRecDepth 100000
set_option maxHeartbeats 6400000
namespace Go.Proofs.YtclicjiakkcfcaaGreatDoor
open Go.RowKit
theorem rdG.far1 {w : World} {B : Nat} {d : Dt} {u : Value} (h : rdG w (fun b => B ≤ b) d u) {p : Addr} (hp : p.block < B) (x : Value) : rdG (w.setCell p x) (fun b => B ≤ b) d u :=
 rdG.move (fun _ _ hb => hb) (fun b hb _ => heap_setCell_other w p b x (by omega)) (by simp) d u h
theorem wrap_pred {k : Nat} {km : Int} (h : k ≤ 100000000) (hk : (k : Int) - 1 = km) : wrap64 ((k : Int) - 1) = km := by unfold wrap64; omega
theorem wrap_sc {k : Nat} (h : k ≤ 100000000) : wrap64 ((k : Int) + 1) = (k : Int) + 1 := by unfold wrap64; omega
theorem km_le {k : Nat} {km : Int} (h : k ≤ 100000000) (hk : (k : Int) - 1 = km) : km ≤ 1000000000 ∧ -10 ≤ km := by omega
theorem sc_le {k : Nat} (h : k ≤ 100000000) : (k : Int) + 1 ≤ 1000000000 ∧ -10 ≤ (k : Int) + 1 := by omega
theorem nth_wa (l : List Nd) (hk : (l.takeWhile fun n => !ofN n).length < l.length) : whB l (((l.takeWhile fun n => !ofN n).length : Int) - 1) = wh13 (atK (l.takeWhile fun n => !ofN n).reverse 0) := by
 obtain ⟨k, hkk⟩ : ∃ k, (l.takeWhile fun n => !ofN n).length = k := ⟨_, rfl⟩
 have ht := tw_take (fun n => !ofN n) l
 rw [hkk] at ht hk ⊢
 rw [← ht]
 unfold whB
 cases k with
 | zero =>
  rw [List.take_zero]
  rfl
 | succ m =>
  rw [decide_eq_true (by omega), Bool.true_and, show (((m + 1 : Nat) : Int) - 1).toNat = m by omega]
  congr 1
  unfold atK
  rw [List.getD_eq_getElem?_getD, List.getD_eq_getElem?_getD, List.getElem?_reverse (by rw [List.length_take]; omega), List.length_take, List.getElem?_take]
  rw [if_pos (by omega)]
  congr 2
  omega
theorem nth_wb (l : List Nd) : whB l (((l.takeWhile fun n => !ofN n).length + 1 : Nat) : Int) = wh13 (atK (l.dropWhile fun n => !ofN n) 1) := by
 rw [← tw_drop]
 unfold whB atK
 rw [decide_eq_true (by omega), Bool.true_and, Int.toNat_natCast, List.getD_eq_getElem?_getD, List.getD_eq_getElem?_getD, List.getElem?_drop]
theorem of_lt {l : List Nd} (h : l.any ofN = true) : (l.takeWhile fun n => !ofN n).length < l.length := by
 induction l with
 | nil => cases h
 | cons n l ih =>
  rw [List.takeWhile_cons]
  split
  · rename_i hn
    rw [List.any_cons] at h
    have h2 : ofN n = false := by simpa using hn
    rw [h2, Bool.false_or] at h
    have := ih h
    simp
    omega
  · simp
theorem nthW_no {ps : List Nd → Int × Int × Bool} {fn : FnS} {kind : Int} {l : List Nd} (h : l.any ofN = false) : nthW ps fn kind l = if (ps l).2.2 = true then some (.mk kind ⟨#[]⟩ ⟨#[]⟩ ⟨#[]⟩ false (ps l).1 (ps l).2.1 []) else none := by
 unfold nthW
 rw [if_neg (by rw [h]; decide)]
theorem nthW_yes {ps : List Nd → Int × Int × Bool} {fn : FnS} {kind : Int} {l : List Nd} {k : Nat} (h : l.any ofN = true) (hk : (l.takeWhile fun n => !ofN n).length = k) : nthW ps fn kind l = if (whB l ((k : Int) - 1) && whB l ((k + 1 : Nat) : Int)) = true then (match listW fn false false (l.drop (k + 1)) with
 | some all => if (ps (l.take k)).2.2 = true then some (.mk kind ⟨#[]⟩ ⟨#[]⟩ ⟨#[]⟩ false (ps (l.take k)).1 (ps (l.take k)).2.1 all) else none
 | none => none) else none := by
  have h1 := nth_wa l (of_lt h)
  have h2 := nth_wb l
  have h3 := tw_take (fun n => !ofN n) l
  have h4 := tw_drop (fun n => !ofN n) l
  rw [hk] at h1 h2 h3 h4
  unfold nthW
  rw [if_pos h, ← h1, ← h2, ← h3, ← h4, List.tail_drop]
  rfl
theorem CB.simAB {w : World} {g : Nat} {k : Int} {n o x : ByteArray} {f : Bool} {a b : Int} {u : Value} (h : CB 72 w g (simC k n o x f a b u)) (a' b' : Int) : CB 72 ((w.setCell ⟨g, 5, none⟩ (.int .i64 a')).setCell ⟨g, 6, none⟩ (.int .i64 b')) g (simC k n o x f a' b' u) := by
 have h1 := (h.set 5 (.int .i64 a')).set 6 (.int .i64 b')
 rw [show ((simC k n o x f a b u).setIfInBounds 5 (.int .i64 a')).setIfInBounds 6 (.int .i64 b') = simC k n o x f a' b' u by kernel_rfl] at h1
 exact h1
theorem CB.simList {w : World} {g : Nat} {k : Int} {n o x : ByteArray} {f : Bool} {a b : Int} {u : Value} (h : CB 72 w g (simC k n o x f a b u)) (u' : Value) : CB 72 (w.setCell ⟨g, 7, none⟩ u') g (simC k n o x f a b u') := by
 have h1 := h.set 7 u'
 rw [show (simC k n o x f a b u).setIfInBounds 7 u' = simC k n o x f a b u' by kernel_rfl] at h1
 exact h1
def PsOk (ps : List Nd → Int × Int × Bool) : Prop := ∀ (P : Nat → Prop) (w : World) (v : Value) (l : List Nd), RdN w P v l → szL l ≤ 100000000 → txD l →
  Calls Tryz.prog 99 #[v] w fun e w' => e = .returned (.tuple #[.int .i64 (ps l).1, .int .i64 (ps l).2.1, .int .i64 (if (ps l).2.2 = true then 0 else 2)]) ∧ Below w.heap.size w w'
theorem txD.take {l : List Nd} (h : txD l) (k : Nat) : txD (l.take k) := txD.of fun n hn => h.mem n (List.mem_of_mem_take hn)
theorem txD.drop {l : List Nd} (h : txD l) (k : Nat) : txD (l.drop k) := txD.of fun n hn => h.mem n (List.mem_of_mem_drop hn)
theorem snth_any {ps : List Nd → Int × Int × Bool} {fn : FnS} {d : Int} (hd0 : 0 < d) (hd1 : d ≤ 10) (hP : PsOk ps) (hL : ListOk fn d) : NthOk ps fn d := by
 intro P w v l kind h hl hx ht
 have hll := Nat.le_trans (szL_ge l) hl
 have HB := Lib.hid (((Below.refl w.heap.size w).alloc (Nat.le_refl _) (.cells simZ 72)).alloc (by simp) (.cells (simC kind ⟨#[]⟩ ⟨#[]⟩ ⟨#[]⟩ false 0 0 (.slice none 0 0)) 72))
 have HZ := Lib.hid ((CB.new (T := 72) w simZ).alloc (.cells (simC kind ⟨#[]⟩ ⟨#[]⟩ ⟨#[]⟩ false 0 0 (.slice none 0 0)) 72))
 have HX := Lib.hid (CB.new (T := 72) (w.alloc (.cells simZ 72)) (simC kind ⟨#[]⟩ ⟨#[]⟩ ⟨#[]⟩ false 0 0 (.slice none 0 0)))
 have h := h.weak (Q := fun g => P g ∧ g < w.heap.size) fun g hl hp => ⟨hp, hl⟩
 obtain ⟨P, hPP⟩ : ∃ Q : Nat → Prop, (fun g => P g ∧ g < w.heap.size) = Q := ⟨_, rfl⟩
 rw [hPP] at h
 have HRD := Lib.hid (h.under HB.out (Nat.le_refl _))
 have HT := Lib.hid (ht.below HB.out)
 have hgx : (w.alloc (.cells simZ 72)).heap.size = w.heap.size + 1 := by simp
 have HNE : Hid (w.heap.size ≠ (w.alloc (.cells simZ 72)).heap.size) := by show _ ≠ _; omega
 have HPX : Hid (∀ g, P g → g ≠ (w.alloc (.cells simZ 72)).heap.size) := fun g hg => by
  rw [← hPP] at hg
  have := hg.2
  omega
 have HLE : Hid (w.heap.size ≤ (w.alloc (.cells simZ 72)).heap.size) := by show _ ≤ _; omega
 obtain ⟨R, hR⟩ : ∃ R, nthW ps fn kind l = R := ⟨_, rfl⟩
 rw [hR]
 obtain ⟨va, vc, rfl, hvc⟩ := h.shape
 obtain ⟨N, hN⟩ : ∃ N, l.length = N := ⟨_, rfl⟩
 rw [hN] at hvc hll HRD ⊢
 have HN := Lib.hid hN
 have HIX := Lib.hid (fun (W : World) (hW : RdN W P (.slice va N vc) l) => idxOf_any hW hl hx.top)
 clear h ht hgx hN hPP
 cases hany : l.any ofN
 · have h1 := nthW_no (ps := ps) (fn := fn) (kind := kind) hany
   rw [idxO_neg l 0 hany] at HIX
   have HPS := Lib.hid (fun (W : World) (hW : RdN W P (.slice va N vc) l) => hP P W _ l hW hl hx)
   rw [hR] at h1
   obtain ⟨⟨pa, pb, q⟩, hps⟩ : ∃ p, ps l = p := ⟨_, rfl⟩
   rw [hps] at h1 HPS
   clear hR hany hps hP hL
   cases q
   · have HRE : Hid (R = none) := h1
     clear h1
     go_enter Tryz.func91, Tryz.ntmps91
     go_upto_region 1 with fail
     generalize w.alloc (.cells simZ 72) = W0 at *
     go_upto_region 2 with fail
     generalize W0.alloc (.cells _ 72) = W1 at *
     generalize W0.heap.size = gx at *
     go_upto_region 13 with (first | (go_at_call 96; (refine (HIX.out _ HRD.out).mono ?_); rintro e w3 ⟨rfl, hb⟩; replace HZ := Lib.hid (HZ.out.below hb HZ.out.lt); replace HX := Lib.hid (HX.out.below hb HX.out.lt); replace HRD := Lib.hid (HRD.out.under hb (Nat.le_refl _)); replace HT := Lib.hid (HT.out.below hb); replace HB := Lib.hid (belowU HB.out hb); clear hb) | (go_at_call 99; (refine (HPS.out _ HRD.out).mono ?_); rintro e w4 ⟨rfl, hb⟩; replace HZ := Lib.hid (HZ.out.below hb HZ.out.lt); replace HX := Lib.hid (HX.out.below hb HX.out.lt); replace HRD := Lib.hid (HRD.out.under hb (Nat.le_refl _)); replace HT := Lib.hid (HT.out.below hb); replace HB := Lib.hid (belowU HB.out hb); clear hb; have x5 : w4.cell? ⟨gx, 5, none⟩ = some (.int .i64 0) := HX.out.cell 5; have x6 : w4.cell? ⟨gx, 6, none⟩ = some (.int .i64 0) := HX.out.cell 6; have xf5 : w4.frozen? ⟨gx, 5, none⟩ = false := HX.out.frozen 5; have xf6 : w4.frozen? ⟨gx, 6, none⟩ = false := HX.out.frozen 6))
     clear x5 x6 xf5 xf6
     replace HX := Lib.hid (HX.out.simAB pa pb)
     replace HZ := Lib.hid ((HZ.out.far (p := ⟨gx, 5, none⟩) HNE.out (.int .i64 pa)).far (p := ⟨gx, 6, none⟩) HNE.out (.int .i64 pb))
     replace HB := Lib.hid ((HB.out.setCell (p := ⟨gx, 5, none⟩) HLE.out (.int .i64 pa)).setCell (p := ⟨gx, 6, none⟩) HLE.out (.int .i64 pb))
     generalize World.setCell (World.setCell _ _ _) _ _ = W6 at *
     have x0 : W6.cell? ⟨gx, 0, none⟩ = some (.int .i64 kind) := HX.out.cell 0
     have x1 : W6.cell? ⟨gx, 1, none⟩ = some (.string ⟨#[]⟩) := HX.out.cell 1
     have x2 : W6.cell? ⟨gx, 2, none⟩ = some (.string ⟨#[]⟩) := HX.out.cell 2
     have x3 : W6.cell? ⟨gx, 3, none⟩ = some (.string ⟨#[]⟩) := HX.out.cell 3
     have x4 : W6.cell? ⟨gx, 4, none⟩ = some (.bool false) := HX.out.cell 4
     have x5 : W6.cell? ⟨gx, 5, none⟩ = some (.int .i64 pa) := HX.out.cell 5
     have x6 : W6.cell? ⟨gx, 6, none⟩ = some (.int .i64 pb) := HX.out.cell 6
     have x7 : W6.cell? ⟨gx, 7, none⟩ = some (.slice none 0 0) := HX.out.cell 7
     go_wp2_with (have hbb := HX.out; refine wpList_store_mid (by rfl) 72 (.tmp 6) (.tmp 61) (by rfl) w.heap.size 0 (simC kind ⟨#[]⟩ ⟨#[]⟩ ⟨#[]⟩ false pa pb (.slice none 0 0)) (by rfl) (by rfl) (cbW_there HZ.out (n := 8) rfl) sim_size (sim_one _ _ _ _ _ _ _ _ _ _) ?_; have HFF := Lib.hid (show CB 72 _ w.heap.size (simC kind ⟨#[]⟩ ⟨#[]⟩ ⟨#[]⟩ false pa pb (.slice none 0 0)) from CB.sim HZ.out); have HBF := Lib.hid (setsW_below (Nat.le_refl _) (simC kind ⟨#[]⟩ ⟨#[]⟩ ⟨#[]⟩ false pa pb (.slice none 0 0)).toList 0 _ HB.out); generalize World.setCells _ w.heap.size 0 _ = W9 at *)
     exact bodyPost_ret (v := .tuple #[.agg (simC kind ⟨#[]⟩ ⟨#[]⟩ ⟨#[]⟩ false pa pb (.slice none 0 0)), .bool false]) (results_cellT (by rfl) _ _ w.heap.size _ _ _ _ _ (by rfl) (by rfl) HFF.out Tryz.underlying72 (by rfl) sim_size) rfl ⟨⟨kind, ⟨#[]⟩, ⟨#[]⟩, ⟨#[]⟩, false, pa, pb, [], _, by rw [HRE.out]; rfl, by rw [cxsDt]; exact rdG.nil _ _ _ _ _, fun s h => by rw [HRE.out] at h; cases h⟩, HBF.out⟩
   · have HRE : Hid (R = some (.mk kind ⟨#[]⟩ ⟨#[]⟩ ⟨#[]⟩ false pa pb [])) := h1
     clear h1
     go_enter Tryz.func91, Tryz.ntmps91
     go_upto_region 1 with fail
     generalize w.alloc (.cells simZ 72) = W0 at *
     go_upto_region 2 with fail
     generalize W0.alloc (.cells _ 72) = W1 at *
     generalize W0.heap.size = gx at *
     go_upto_region 13 with (first | (go_at_call 96; (refine (HIX.out _ HRD.out).mono ?_); rintro e w3 ⟨rfl, hb⟩; replace HZ := Lib.hid (HZ.out.below hb HZ.out.lt); replace HX := Lib.hid (HX.out.below hb HX.out.lt); replace HRD := Lib.hid (HRD.out.under hb (Nat.le_refl _)); replace HT := Lib.hid (HT.out.below hb); replace HB := Lib.hid (belowU HB.out hb); clear hb) | (go_at_call 99; (refine (HPS.out _ HRD.out).mono ?_); rintro e w4 ⟨rfl, hb⟩; replace HZ := Lib.hid (HZ.out.below hb HZ.out.lt); replace HX := Lib.hid (HX.out.below hb HX.out.lt); replace HRD := Lib.hid (HRD.out.under hb (Nat.le_refl _)); replace HT := Lib.hid (HT.out.below hb); replace HB := Lib.hid (belowU HB.out hb); clear hb; have x5 : w4.cell? ⟨gx, 5, none⟩ = some (.int .i64 0) := HX.out.cell 5; have x6 : w4.cell? ⟨gx, 6, none⟩ = some (.int .i64 0) := HX.out.cell 6; have xf5 : w4.frozen? ⟨gx, 5, none⟩ = false := HX.out.frozen 5; have xf6 : w4.frozen? ⟨gx, 6, none⟩ = false := HX.out.frozen 6))
     clear x5 x6 xf5 xf6
     replace HX := Lib.hid (HX.out.simAB pa pb)
     replace HZ := Lib.hid ((HZ.out.far (p := ⟨gx, 5, none⟩) HNE.out (.int .i64 pa)).far (p := ⟨gx, 6, none⟩) HNE.out (.int .i64 pb))
     replace HB := Lib.hid ((HB.out.setCell (p := ⟨gx, 5, none⟩) HLE.out (.int .i64 pa)).setCell (p := ⟨gx, 6, none⟩) HLE.out (.int .i64 pb))
     generalize World.setCell (World.setCell _ _ _) _ _ = W6 at *
     have x0 : W6.cell? ⟨gx, 0, none⟩ = some (.int .i64 kind) := HX.out.cell 0
     have x1 : W6.cell? ⟨gx, 1, none⟩ = some (.string ⟨#[]⟩) := HX.out.cell 1
     have x2 : W6.cell? ⟨gx, 2, none⟩ = some (.string ⟨#[]⟩) := HX.out.cell 2
     have x3 : W6.cell? ⟨gx, 3, none⟩ = some (.string ⟨#[]⟩) := HX.out.cell 3
     have x4 : W6.cell? ⟨gx, 4, none⟩ = some (.bool false) := HX.out.cell 4
     have x5 : W6.cell? ⟨gx, 5, none⟩ = some (.int .i64 pa) := HX.out.cell 5
     have x6 : W6.cell? ⟨gx, 6, none⟩ = some (.int .i64 pb) := HX.out.cell 6
     have x7 : W6.cell? ⟨gx, 7, none⟩ = some (.slice none 0 0) := HX.out.cell 7
     go_wp2_with (have hbb := HX.out; refine wpList_store_mid (by rfl) 72 (.tmp 6) (.tmp 61) (by rfl) w.heap.size 0 (simC kind ⟨#[]⟩ ⟨#[]⟩ ⟨#[]⟩ false pa pb (.slice none 0 0)) (by rfl) (by rfl) (cbW_there HZ.out (n := 8) rfl) sim_size (sim_one _ _ _ _ _ _ _ _ _ _) ?_; have HFF := Lib.hid (show CB 72 _ w.heap.size (simC kind ⟨#[]⟩ ⟨#[]⟩ ⟨#[]⟩ false pa pb (.slice none 0 0)) from CB.sim HZ.out); have HBF := Lib.hid (setsW_below (Nat.le_refl _) (simC kind ⟨#[]⟩ ⟨#[]⟩ ⟨#[]⟩ false pa pb (.slice none 0 0)).toList 0 _ HB.out); generalize World.setCells _ w.heap.size 0 _ = W9 at *)
     exact bodyPost_ret (v := .tuple #[.agg (simC kind ⟨#[]⟩ ⟨#[]⟩ ⟨#[]⟩ false pa pb (.slice none 0 0)), .bool true]) (results_cellT (by rfl) _ _ w.heap.size _ _ _ _ _ (by rfl) (by rfl) HFF.out Tryz.underlying72 (by rfl) sim_size) rfl ⟨⟨kind, ⟨#[]⟩, ⟨#[]⟩, ⟨#[]⟩, false, pa, pb, [], _, by rw [HRE.out]; rfl, by rw [cxsDt]; exact rdG.nil _ _ _ _ _, fun s h => by rw [HRE.out] at h; cases h; rfl⟩, HBF.out⟩
 · obtain ⟨k, hk⟩ : ∃ k, (l.takeWhile fun n => !ofN n).length = k := ⟨_, rfl⟩
   have hkl := of_lt hany
   have h1 := nthW_yes (ps := ps) (fn := fn) (kind := kind) hany hk
   have hix := idxO_pos l 0 hany
   rw [hk, Nat.zero_add] at hix
   rw [hix] at HIX
   rw [hk, HN.out] at hkl
   rw [hR] at h1
   obtain ⟨km, hkm⟩ : ∃ x : Int, (k : Int) - 1 = x := ⟨_, rfl⟩
   have hcast : ((k + 1 : Nat) : Int) = (k : Int) + 1 := rfl
   have hkN : k ≤ 100000000 := Nat.le_trans (Nat.le_of_lt hkl) hll
   have hw1 := wrap_pred hkN hkm
   have hw2 := wrap_sc hkN
   have hk0 : (0 : Int) ≤ (k : Int) := Int.natCast_nonneg k
   have hk0b : decide ((0 : Int) ≤ (k : Int)) = true := decide_eq_true hk0
   have HW1 := Lib.hid (fun (W : World) (hW : RdN W P (.slice va N vc) l) => whiteAt_any hW hl km (km_le hkN hkm).1 (km_le hkN hkm).2)
   have HW2 := Lib.hid (fun (W : World) (hW : RdN W P (.slice va N vc) l) => whiteAt_any hW hl ((k : Int) + 1) (sc_le hkN).1 (sc_le hkN).2)
   rw [hkm, hcast] at h1
   clear hR hany hk hix
   cases c1 : whB l km
   · rw [c1] at HW1 h1
     have HRE : Hid (R = none) := h1
     clear h1 HW2 hP hL
     go_enter Tryz.func91, Tryz.ntmps91
     go_upto_region 1 with fail
     generalize w.alloc (.cells simZ 72) = W0 at *
     go_upto_region 2 with fail
     generalize W0.alloc (.cells _ 72) = W1 at *
     generalize W0.heap.size = gx at *
     go_wp2_with (first | (have hbb := HX.out; refine wpList_store_mid (by rfl) 72 (.tmp 6) (.tmp 33) (by rfl) w.heap.size 0 simZ (by rfl) (by rfl) (cbW_there HZ.out (n := 8) rfl) sim_size simZ_one ?_; have HFF := Lib.hid (show CB 72 _ w.heap.size simZ from CB.sim HZ.out); have HBF := Lib.hid (setsW_below (Nat.le_refl _) simZ.toList 0 _ HB.out); generalize World.setCells _ w.heap.size 0 _ = W9 at *) | (go_at_call 96; (refine (HIX.out _ HRD.out).mono ?_); rintro e w3 ⟨rfl, hb⟩; replace HZ := Lib.hid (HZ.out.below hb HZ.out.lt); replace HX := Lib.hid (HX.out.below hb HX.out.lt); replace HRD := Lib.hid (HRD.out.under hb (Nat.le_refl _)); replace HT := Lib.hid (HT.out.below hb); replace HB := Lib.hid (belowU HB.out hb); clear hb) | (go_at_call 98; (with_reducible refine (HW1.out _ HRD.out).mono ?_); rintro e w3 ⟨rfl, hb⟩; replace HZ := Lib.hid (HZ.out.below hb HZ.out.lt); replace HX := Lib.hid (HX.out.below hb HX.out.lt); replace HRD := Lib.hid (HRD.out.under hb (Nat.le_refl _)); replace HT := Lib.hid (HT.out.below hb); replace HB := Lib.hid (belowU HB.out hb); clear hb))
     exact bodyPost_ret (v := .tuple #[.agg simZ, .bool false]) (results_cellT (by rfl) _ _ w.heap.size _ _ _ _ _ (by rfl) (by rfl) HFF.out Tryz.underlying72 (by rfl) sim_size) rfl ⟨⟨_, _, _, _, _, _, _, [], _, by rw [HRE.out]; rfl, by rw [cxsDt]; exact rdG.nil _ _ _ _ _, fun s h => by rw [HRE.out] at h; cases h⟩, HBF.out⟩
   · rw [c1] at HW1 h1
     cases c2 : whB l ((k : Int) + 1)
     ·
       rw [c2] at HW2 h1
       have HRE : Hid (R = none) := h1
       clear h1 hP hL
       go_enter Tryz.func91, Tryz.ntmps91
       go_upto_region 1 with fail
       generalize w.alloc (.cells simZ 72) = W0 at *
       go_upto_region 2 with fail
       generalize W0.alloc (.cells _ 72) = W1 at *
       generalize W0.heap.size = gx at *
       go_wp2_with (first | (have hbb := HX.out; refine wpList_store_mid (by rfl) 72 (.tmp 6) (.tmp 33) (by rfl) w.heap.size 0 simZ (by rfl) (by rfl) (cbW_there HZ.out (n := 8) rfl) sim_size simZ_one ?_; have HFF := Lib.hid (show CB 72 _ w.heap.size simZ from CB.sim HZ.out); have HBF := Lib.hid (setsW_below (Nat.le_refl _) simZ.toList 0 _ HB.out); generalize World.setCells _ w.heap.size 0 _ = W9 at *) | (go_at_call 96; (refine (HIX.out _ HRD.out).mono ?_); rintro e w3 ⟨rfl, hb⟩; replace HZ := Lib.hid (HZ.out.below hb HZ.out.lt); replace HX := Lib.hid (HX.out.below hb HX.out.lt); replace HRD := Lib.hid (HRD.out.under hb (Nat.le_refl _)); replace HT := Lib.hid (HT.out.below hb); replace HB := Lib.hid (belowU HB.out hb); clear hb) | (go_at_call 98; (with_reducible refine (HW1.out _ HRD.out).mono ?_); rintro e w3 ⟨rfl, hb⟩; replace HZ := Lib.hid (HZ.out.below hb HZ.out.lt); replace HX := Lib.hid (HX.out.below hb HX.out.lt); replace HRD := Lib.hid (HRD.out.under hb (Nat.le_refl _)); replace HT := Lib.hid (HT.out.below hb); replace HB := Lib.hid (belowU HB.out hb); clear hb) | (go_at_call 98; (with_reducible refine (HW2.out _ HRD.out).mono ?_); rintro e w3 ⟨rfl, hb⟩; replace HZ := Lib.hid (HZ.out.below hb HZ.out.lt); replace HX := Lib.hid (HX.out.below hb HX.out.lt); replace HRD := Lib.hid (HRD.out.under hb (Nat.le_refl _)); replace HT := Lib.hid (HT.out.below hb); replace HB := Lib.hid (belowU HB.out hb); clear hb))
       exact bodyPost_ret (v := .tuple #[.agg simZ, .bool false]) (results_cellT (by rfl) _ _ w.heap.size _ _ _ _ _ (by rfl) (by rfl) HFF.out Tryz.underlying72 (by rfl) sim_size) rfl ⟨⟨_, _, _, _, _, _, _, [], _, by rw [HRE.out]; rfl, by rw [cxsDt]; exact rdG.nil _ _ _ _ _, fun s h => by rw [HRE.out] at h; cases h⟩, HBF.out⟩
     ·
       rw [c2] at HW2 h1
       have hd0b : (d == 0) = false := beq_false_of_ne (by omega)
       have HLS := Lib.hid (fun (W : World) (u : Value) (hW : RdN W P u (l.drop (k + 1))) (hT : TabL W) => hL P W u (l.drop (k + 1)) false hW (Nat.le_trans (szL_sub (k + 1) l) hl) (hx.drop (k + 1)) hT)
       rw [hd0b] at HLS
       unfold ListPost at HLS
       have HPS := Lib.hid (fun (W : World) (hW : RdN W P (.slice va k vc) (l.take k)) => hP P W _ (l.take k) hW (Nat.le_trans (szL_le_take k l) hl) (hx.take k))
       obtain ⟨LW, hLW⟩ : ∃ x, listW fn false false (l.drop (k + 1)) = x := ⟨_, rfl⟩
       rw [hLW] at HLS h1
       obtain ⟨⟨pa, pb, q⟩, hps⟩ : ∃ p, ps (l.take k) = p := ⟨_, rfl⟩
       rw [hps] at h1 HPS
       have hsN : k + 1 ≤ N := hkl
       have HKN : Hid (k ≤ N) := Nat.le_of_lt hkl
       have hx2 : (k : Int) + 1 ≤ (N : Int) := Int.ofNat_le.2 hsN
       have hx4 : (0 : Int) ≤ (k : Int) + 1 := Int.natCast_nonneg (k + 1)
       have hx5 : (k : Int) ≤ (N : Int) := Int.ofNat_le.2 (Nat.le_of_lt hkl)
       have hx6 : (k : Int) ≤ (vc : Int) := Int.ofNat_le.2 (Nat.le_trans (Nat.le_of_lt hkl) hvc)
       obtain ⟨vb, vo, rfl⟩ : ∃ vb vo, va = some ⟨vb, vo, none⟩ := by
        obtain ⟨b, off, c2, hv2, _⟩ := HRD.out.base (by rw [HN.out]; exact Nat.lt_of_le_of_lt (Nat.zero_le _) hkl)
        injection hv2 with hv2 _ _
        exact ⟨b, off, hv2⟩
       clear hps hLW hP hL hkl hcast
       by_cases hbc : vc = k + 1
       · subst hbc
         obtain rfl : N = k + 1 := Nat.le_antisymm hvc hsN
         have HDR := Lib.hid (fun (W : World) (_ : RdN W P (.slice (some ⟨vb, vo, none⟩) (k + 1) (k + 1)) l) => (show RdN W P (.slice (some ⟨vb, vo, none⟩) 0 0) (l.drop (k + 1)) by
          rw [List.drop_eq_nil_of_le (Nat.le_of_eq HN.out)]
          exact .nil _ _))
         cases LW with
         | none =>
          have HRE : Hid (R = none) := h1
          clear h1 HPS
          go_enter Tryz.func91, Tryz.ntmps91
          go_upto_region 1 with fail
          generalize w.alloc (.cells simZ 72) = W0 at *
          go_upto_region 2 with fail
          generalize W0.alloc (.cells _ 72) = W1 at *
          generalize W0.heap.size = gx at *
          go_wp2_with (first | (have hbb := HX.out; refine wpList_store_mid (by rfl) 72 (.tmp 6) (.tmp 45) (by rfl) w.heap.size 0 simZ (by rfl) (by rfl) (cbW_there HZ.out (n := 8) rfl) sim_size simZ_one ?_; have HFF := Lib.hid (show CB 72 _ w.heap.size simZ from CB.sim HZ.out); have HBF := Lib.hid (setsW_below (Nat.le_refl _) simZ.toList 0 _ HB.out); generalize World.setCells _ w.heap.size 0 _ = W9 at *) | (go_at_call 96; (refine (HIX.out _ HRD.out).mono ?_); rintro e w3 ⟨rfl, hb⟩; replace HZ := Lib.hid (HZ.out.below hb HZ.out.lt); replace HX := Lib.hid (HX.out.below hb HX.out.lt); replace HRD := Lib.hid (HRD.out.under hb (Nat.le_refl _)); replace HT := Lib.hid (HT.out.below hb); replace HB := Lib.hid (belowU HB.out hb); clear hb) | (go_at_call 98; (with_reducible refine (HW1.out _ HRD.out).mono ?_); rintro e w3 ⟨rfl, hb⟩; replace HZ := Lib.hid (HZ.out.below hb HZ.out.lt); replace HX := Lib.hid (HX.out.below hb HX.out.lt); replace HRD := Lib.hid (HRD.out.under hb (Nat.le_refl _)); replace HT := Lib.hid (HT.out.below hb); replace HB := Lib.hid (belowU HB.out hb); clear hb) | (go_at_call 98; (with_reducible refine (HW2.out _ HRD.out).mono ?_); rintro e w3 ⟨rfl, hb⟩; replace HZ := Lib.hid (HZ.out.below hb HZ.out.lt); replace HX := Lib.hid (HX.out.below hb HX.out.lt); replace HRD := Lib.hid (HRD.out.under hb (Nat.le_refl _)); replace HT := Lib.hid (HT.out.below hb); replace HB := Lib.hid (belowU HB.out hb); clear hb) | (go_at_call 14; (refine (HLS.out _ _ (HDR.out _ HRD.out) HT.out).mono ?_); rintro e w5 ⟨⟨L, u, rfl, hr, hq⟩, hb⟩; obtain ⟨ua, uc, rfl, _⟩ := hr.shape; have HWB := Lib.hid (show w.heap.size < _ from HZ.out.lt); have HGB := Lib.hid (show gx < _ from HX.out.lt); have HLR := Lib.hid hr; generalize (cxsDt L).length = n3 at *; replace HZ := Lib.hid (HZ.out.below hb HZ.out.lt); replace HX := Lib.hid (HX.out.below hb HX.out.lt); replace HRD := Lib.hid (HRD.out.under hb (Nat.le_refl _)); replace HT := Lib.hid (HT.out.below hb); replace HB := Lib.hid (belowU HB.out hb); clear hb hr))
          exact bodyPost_ret (v := .tuple #[.agg simZ, .bool false]) (results_cellT (by rfl) _ _ w.heap.size _ _ _ _ _ (by rfl) (by rfl) HFF.out Tryz.underlying72 (by rfl) sim_size) rfl ⟨⟨_, _, _, _, _, _, _, [], _, by rw [HRE.out]; rfl, by rw [cxsDt]; exact rdG.nil _ _ _ _ _, fun s h => by rw [HRE.out] at h; cases h⟩, HBF.out⟩
         | some all =>
          cases q
          · have HRE : Hid (R = none) := h1
            clear h1
            go_enter Tryz.func91, Tryz.ntmps91
            go_upto_region 1 with fail
            generalize w.alloc (.cells simZ 72) = W0 at *
            go_upto_region 2 with fail
            generalize W0.alloc (.cells _ 72) = W1 at *
            generalize W0.heap.size = gx at *
            go_upto_region 10 with (first | (go_at_call 96; (refine (HIX.out _ HRD.out).mono ?_); rintro e w3 ⟨rfl, hb⟩; replace HZ := Lib.hid (HZ.out.below hb HZ.out.lt); replace HX := Lib.hid (HX.out.below hb HX.out.lt); replace HRD := Lib.hid (HRD.out.under hb (Nat.le_refl _)); replace HT := Lib.hid (HT.out.below hb); replace HB := Lib.hid (belowU HB.out hb); clear hb) | (go_at_call 98; (with_reducible refine (HW1.out _ HRD.out).mono ?_); rintro e w3 ⟨rfl, hb⟩; replace HZ := Lib.hid (HZ.out.below hb HZ.out.lt); replace HX := Lib.hid (HX.out.below hb HX.out.lt); replace HRD := Lib.hid (HRD.out.under hb (Nat.le_refl _)); replace HT := Lib.hid (HT.out.below hb); replace HB := Lib.hid (belowU HB.out hb); clear hb) | (go_at_call 98; (with_reducible refine (HW2.out _ HRD.out).mono ?_); rintro e w3 ⟨rfl, hb⟩; replace HZ := Lib.hid (HZ.out.below hb HZ.out.lt); replace HX := Lib.hid (HX.out.below hb HX.out.lt); replace HRD := Lib.hid (HRD.out.under hb (Nat.le_refl _)); replace HT := Lib.hid (HT.out.below hb); replace HB := Lib.hid (belowU HB.out hb); clear hb) | (go_at_call 14; (refine (HLS.out _ _ (HDR.out _ HRD.out) HT.out).mono ?_); rintro e w5 ⟨⟨L, u, rfl, hr, hq⟩, hb⟩; obtain ⟨ua, uc, rfl, _⟩ := hr.shape; have HWB := Lib.hid (show w.heap.size < _ from HZ.out.lt); have HGB := Lib.hid (show gx < _ from HX.out.lt); have HLR := Lib.hid hr; generalize (cxsDt L).length = n3 at *; replace HZ := Lib.hid (HZ.out.below hb HZ.out.lt); replace HX := Lib.hid (HX.out.below hb HX.out.lt); replace HRD := Lib.hid (HRD.out.under hb (Nat.le_refl _)); replace HT := Lib.hid (HT.out.below hb); replace HB := Lib.hid (belowU HB.out hb); clear hb hr; have x7 : w5.cell? ⟨gx, 7, none⟩ = some (.slice none 0 0) := HX.out.cell 7; have xf7 : w5.frozen? ⟨gx, 7, none⟩ = false := HX.out.frozen 7))
            clear x7 xf7
            replace HX := Lib.hid (HX.out.simList (.slice ua n3 uc))
            replace HZ := Lib.hid (HZ.out.far (p := ⟨gx, 7, none⟩) HNE.out (.slice ua n3 uc))
            replace HB := Lib.hid (HB.out.setCell (p := ⟨gx, 7, none⟩) HLE.out (.slice ua n3 uc))
            replace HLR := Lib.hid (HLR.out.far1 (p := ⟨gx, 7, none⟩) HGB.out (.slice ua n3 uc))
            have hqa := hq all rfl
            subst hqa
            replace HRD := Lib.hid ((HRD.out.move (w' := w5.setCell ⟨gx, 7, none⟩ (.slice ua n3 uc)) (fun b hb _ => heap_setCell_other _ _ _ _ (HPX.out b hb)) (by simp)).take k (by rw [HN.out]; exact HKN.out))
            clear HT
            generalize w5.setCell _ _ = W5' at *
            go_upto_region 13 with (go_at_call 99; (refine (HPS.out _ HRD.out).mono ?_); rintro e w4 ⟨rfl, hb⟩; replace HZ := Lib.hid (HZ.out.below hb HZ.out.lt); replace HX := Lib.hid (HX.out.below hb HX.out.lt); replace HRD := Lib.hid (HRD.out.under hb (Nat.le_refl _)); replace HB := Lib.hid (belowU HB.out hb); replace HLR := Lib.hid (HLR.out.under hb (Nat.le_refl _)); clear hb; have x5 : w4.cell? ⟨gx, 5, none⟩ = some (.int .i64 0) := HX.out.cell 5; have x6 : w4.cell? ⟨gx, 6, none⟩ = some (.int .i64 0) := HX.out.cell 6; have xf5 : w4.frozen? ⟨gx, 5, none⟩ = false := HX.out.frozen 5; have xf6 : w4.frozen? ⟨gx, 6, none⟩ = false := HX.out.frozen 6)
            clear x5 x6 xf5 xf6
            replace HX := Lib.hid (HX.out.simAB pa pb)
            replace HZ := Lib.hid ((HZ.out.far (p := ⟨gx, 5, none⟩) HNE.out (.int .i64 pa)).far (p := ⟨gx, 6, none⟩) HNE.out (.int .i64 pb))
            replace HB := Lib.hid ((HB.out.setCell (p := ⟨gx, 5, none⟩) HLE.out (.int .i64 pa)).setCell (p := ⟨gx, 6, none⟩) HLE.out (.int .i64 pb))
            replace HLR := Lib.hid ((HLR.out.far1 (p := ⟨gx, 5, none⟩) HGB.out (.int .i64 pa)).far1 (p := ⟨gx, 6, none⟩) HGB.out (.int .i64 pb))
            generalize World.setCell (World.setCell _ _ _) _ _ = W6 at *
            have x0 : W6.cell? ⟨gx, 0, none⟩ = some (.int .i64 kind) := HX.out.cell 0
            have x1 : W6.cell? ⟨gx, 1, none⟩ = some (.string ⟨#[]⟩) := HX.out.cell 1
            have x2 : W6.cell? ⟨gx, 2, none⟩ = some (.string ⟨#[]⟩) := HX.out.cell 2
            have x3 : W6.cell? ⟨gx, 3, none⟩ = some (.string ⟨#[]⟩) := HX.out.cell 3
            have x4 : W6.cell? ⟨gx, 4, none⟩ = some (.bool false) := HX.out.cell 4
            have x5 : W6.cell? ⟨gx, 5, none⟩ = some (.int .i64 pa) := HX.out.cell 5
            have x6 : W6.cell? ⟨gx, 6, none⟩ = some (.int .i64 pb) := HX.out.cell 6
            have x7 : W6.cell? ⟨gx, 7, none⟩ = some (.slice ua n3 uc) := HX.out.cell 7
            go_wp2_with (have hbb := HX.out; refine wpList_store_mid (by rfl) 72 (.tmp 6) (.tmp 61) (by rfl) w.heap.size 0 (simC kind ⟨#[]⟩ ⟨#[]⟩ ⟨#[]⟩ false pa pb (.slice ua n3 uc)) (by rfl) (by rfl) (cbW_there HZ.out (n := 8) rfl) sim_size (sim_one _ _ _ _ _ _ _ _ _ _) ?_; have HFF := Lib.hid (show CB 72 _ w.heap.size (simC kind ⟨#[]⟩ ⟨#[]⟩ ⟨#[]⟩ false pa pb (.slice ua n3 uc)) from CB.sim HZ.out); have HBF := Lib.hid (setsW_below (Nat.le_refl _) (simC kind ⟨#[]⟩ ⟨#[]⟩ ⟨#[]⟩ false pa pb (.slice ua n3 uc)).toList 0 _ HB.out); have HTR := Lib.hid (rdG.sets2 (C := w.heap.size) HLR.out HWB.out (Nat.le_of_lt HWB.out) (simC kind ⟨#[]⟩ ⟨#[]⟩ ⟨#[]⟩ false pa pb (.slice ua n3 uc)).toList); generalize World.setCells _ w.heap.size 0 _ = W9 at *)
            exact bodyPost_ret (v := .tuple #[.agg (simC kind ⟨#[]⟩ ⟨#[]⟩ ⟨#[]⟩ false pa pb (.slice ua n3 uc)), .bool false]) (results_cellT (by rfl) _ _ w.heap.size _ _ _ _ _ (by rfl) (by rfl) HFF.out Tryz.underlying72 (by rfl) sim_size) rfl ⟨⟨kind, ⟨#[]⟩, ⟨#[]⟩, ⟨#[]⟩, false, pa, pb, all, _, by rw [HRE.out]; rfl, HTR.out, fun s h => by rw [HRE.out] at h; cases h⟩, HBF.out⟩
          · have HRE : Hid (R = some (.mk kind ⟨#[]⟩ ⟨#[]⟩ ⟨#[]⟩ false pa pb all)) := h1
            clear h1
            go_enter Tryz.func91, Tryz.ntmps91
            go_upto_region 1 with fail
            generalize w.alloc (.cells simZ 72) = W0 at *
            go_upto_region 2 with fail
            generalize W0.alloc (.cells _ 72) = W1 at *
            generalize W0.heap.size = gx at *
            go_upto_region 10 with (first | (go_at_call 96; (refine (HIX.out _ HRD.out).mono ?_); rintro e w3 ⟨rfl, hb⟩; replace HZ := Lib.hid (HZ.out.below hb HZ.out.lt); replace HX := Lib.hid (HX.out.below hb HX.out.lt); replace HRD := Lib.hid (HRD.out.under hb (Nat.le_refl _)); replace HT := Lib.hid (HT.out.below hb); replace HB := Lib.hid (belowU HB.out hb); clear hb) | (go_at_call 98; (with_reducible refine (HW1.out _ HRD.out).mono ?_); rintro e w3 ⟨rfl, hb⟩; replace HZ := Lib.hid (HZ.out.below hb HZ.out.lt); replace HX := Lib.hid (HX.out.below hb HX.out.lt); replace HRD := Lib.hid (HRD.out.under hb (Nat.le_refl _)); replace HT := Lib.hid (HT.out.below hb); replace HB := Lib.hid (belowU HB.out hb); clear hb) | (go_at_call 98; (with_reducible refine (HW2.out _ HRD.out).mono ?_); rintro e w3 ⟨rfl, hb⟩; replace HZ := Lib.hid (HZ.out.below hb HZ.out.lt); replace HX := Lib.hid (HX.out.below hb HX.out.lt); replace HRD := Lib.hid (HRD.out.under hb (Nat.le_refl _)); replace HT := Lib.hid (HT.out.below hb); replace HB := Lib.hid (belowU HB.out hb); clear hb) | (go_at_call 14; (refine (HLS.out _ _ (HDR.out _ HRD.out) HT.out).mono ?_); rintro e w5 ⟨⟨L, u, rfl, hr, hq⟩, hb⟩; obtain ⟨ua, uc, rfl, _⟩ := hr.shape; have HWB := Lib.hid (show w.heap.size < _ from HZ.out.lt); have HGB := Lib.hid (show gx < _ from HX.out.lt); have HLR := Lib.hid hr; generalize (cxsDt L).length = n3 at *; replace HZ := Lib.hid (HZ.out.below hb HZ.out.lt); replace HX := Lib.hid (HX.out.below hb HX.out.lt); replace HRD := Lib.hid (HRD.out.under hb (Nat.le_refl _)); replace HT := Lib.hid (HT.out.below hb); replace HB := Lib.hid (belowU HB.out hb); clear hb hr; have x7 : w5.cell? ⟨gx, 7, none⟩ = some (.slice none 0 0) := HX.out.cell 7; have xf7 : w5.frozen? ⟨gx, 7, none⟩ = false := HX.out.frozen 7))
            clear x7 xf7
            replace HX := Lib.hid (HX.out.simList (.slice ua n3 uc))
            replace HZ := Lib.hid (HZ.out.far (p := ⟨gx, 7, none⟩) HNE.out (.slice ua n3 uc))
            replace HB := Lib.hid (HB.out.setCell (p := ⟨gx, 7, none⟩) HLE.out (.slice ua n3 uc))
            replace HLR := Lib.hid (HLR.out.far1 (p := ⟨gx, 7, none⟩) HGB.out (.slice ua n3 uc))
            have hqa := hq all rfl
            subst hqa
            replace HRD := Lib.hid ((HRD.out.move (w' := w5.setCell ⟨gx, 7, none⟩ (.slice ua n3 uc)) (fun b hb _ => heap_setCell_other _ _ _ _ (HPX.out b hb)) (by simp)).take k (by rw [HN.out]; exact HKN.out))
            clear HT
            generalize w5.setCell _ _ = W5' at *
            go_upto_region 13 with (go_at_call 99; (refine (HPS.out _ HRD.out).mono ?_); rintro e w4 ⟨rfl, hb⟩; replace HZ := Lib.hid (HZ.out.below hb HZ.out.lt); replace HX := Lib.hid (HX.out.below hb HX.out.lt); replace HRD := Lib.hid (HRD.out.under hb (Nat.le_refl _)); replace HB := Lib.hid (belowU HB.out hb); replace HLR := Lib.hid (HLR.out.under hb (Nat.le_refl _)); clear hb; have x5 : w4.cell? ⟨gx, 5, none⟩ = some (.int .i64 0) := HX.out.cell 5; have x6 : w4.cell? ⟨gx, 6, none⟩ = some (.int .i64 0) := HX.out.cell 6; have xf5 : w4.frozen? ⟨gx, 5, none⟩ = false := HX.out.frozen 5; have xf6 : w4.frozen? ⟨gx, 6, none⟩ = false := HX.out.frozen 6)
            clear x5 x6 xf5 xf6
            replace HX := Lib.hid (HX.out.simAB pa pb)
            replace HZ := Lib.hid ((HZ.out.far (p := ⟨gx, 5, none⟩) HNE.out (.int .i64 pa)).far (p := ⟨gx, 6, none⟩) HNE.out (.int .i64 pb))
            replace HB := Lib.hid ((HB.out.setCell (p := ⟨gx, 5, none⟩) HLE.out (.int .i64 pa)).setCell (p := ⟨gx, 6, none⟩) HLE.out (.int .i64 pb))
            replace HLR := Lib.hid ((HLR.out.far1 (p := ⟨gx, 5, none⟩) HGB.out (.int .i64 pa)).far1 (p := ⟨gx, 6, none⟩) HGB.out (.int .i64 pb))
            generalize World.setCell (World.setCell _ _ _) _ _ = W6 at *
            have x0 : W6.cell? ⟨gx, 0, none⟩ = some (.int .i64 kind) := HX.out.cell 0
            have x1 : W6.cell? ⟨gx, 1, none⟩ = some (.string ⟨#[]⟩) := HX.out.cell 1
            have x2 : W6.cell? ⟨gx, 2, none⟩ = some (.string ⟨#[]⟩) := HX.out.cell 2
            have x3 : W6.cell? ⟨gx, 3, none⟩ = some (.string ⟨#[]⟩) := HX.out.cell 3
            have x4 : W6.cell? ⟨gx, 4, none⟩ = some (.bool false) := HX.out.cell 4
            have x5 : W6.cell? ⟨gx, 5, none⟩ = some (.int .i64 pa) := HX.out.cell 5
            have x6 : W6.cell? ⟨gx, 6, none⟩ = some (.int .i64 pb) := HX.out.cell 6
            have x7 : W6.cell? ⟨gx, 7, none⟩ = some (.slice ua n3 uc) := HX.out.cell 7
            go_wp2_with (have hbb := HX.out; refine wpList_store_mid (by rfl) 72 (.tmp 6) (.tmp 61) (by rfl) w.heap.size 0 (simC kind ⟨#[]⟩ ⟨#[]⟩ ⟨#[]⟩ false pa pb (.slice ua n3 uc)) (by rfl) (by rfl) (cbW_there HZ.out (n := 8) rfl) sim_size (sim_one _ _ _ _ _ _ _ _ _ _) ?_; have HFF := Lib.hid (show CB 72 _ w.heap.size (simC kind ⟨#[]⟩ ⟨#[]⟩ ⟨#[]⟩ false pa pb (.slice ua n3 uc)) from CB.sim HZ.out); have HBF := Lib.hid (setsW_below (Nat.le_refl _) (simC kind ⟨#[]⟩ ⟨#[]⟩ ⟨#[]⟩ false pa pb (.slice ua n3 uc)).toList 0 _ HB.out); have HTR := Lib.hid (rdG.sets2 (C := w.heap.size) HLR.out HWB.out (Nat.le_of_lt HWB.out) (simC kind ⟨#[]⟩ ⟨#[]⟩ ⟨#[]⟩ false pa pb (.slice ua n3 uc)).toList); generalize World.setCells _ w.heap.size 0 _ = W9 at *)
            exact bodyPost_ret (v := .tuple #[.agg (simC kind ⟨#[]⟩ ⟨#[]⟩ ⟨#[]⟩ false pa pb (.slice ua n3 uc)), .bool true]) (results_cellT (by rfl) _ _ w.heap.size _ _ _ _ _ (by rfl) (by rfl) HFF.out Tryz.underlying72 (by rfl) sim_size) rfl ⟨⟨kind, ⟨#[]⟩, ⟨#[]⟩, ⟨#[]⟩, false, pa, pb, all, _, by rw [HRE.out]; rfl, HTR.out, fun s h => by rw [HRE.out] at h; cases h; rfl⟩, HBF.out⟩
       · have HDR := Lib.hid (fun (W : World) (hW : RdN W P (.slice (some ⟨vb, vo, none⟩) N vc) l) => hW.drop (k + 1) (by rw [HN.out]; exact hsN))
         cases LW with
         | none =>
          have HRE : Hid (R = none) := h1
          clear h1 HPS
          go_enter Tryz.func91, Tryz.ntmps91
          go_upto_region 1 with fail
          generalize w.alloc (.cells simZ 72) = W0 at *
          go_upto_region 2 with fail
          generalize W0.alloc (.cells _ 72) = W1 at *
          generalize W0.heap.size = gx at *
          go_wp2_with (first | (have hbb := HX.out; refine wpList_store_mid (by rfl) 72 (.tmp 6) (.tmp 45) (by rfl) w.heap.size 0 simZ (by rfl) (by rfl) (cbW_there HZ.out (n := 8) rfl) sim_size simZ_one ?_; have HFF := Lib.hid (show CB 72 _ w.heap.size simZ from CB.sim HZ.out); have HBF := Lib.hid (setsW_below (Nat.le_refl _) simZ.toList 0 _ HB.out); generalize World.setCells _ w.heap.size 0 _ = W9 at *) | (go_at_call 96; (refine (HIX.out _ HRD.out).mono ?_); rintro e w3 ⟨rfl, hb⟩; replace HZ := Lib.hid (HZ.out.below hb HZ.out.lt); replace HX := Lib.hid (HX.out.below hb HX.out.lt); replace HRD := Lib.hid (HRD.out.under hb (Nat.le_refl _)); replace HT := Lib.hid (HT.out.below hb); replace HB := Lib.hid (belowU HB.out hb); clear hb) | (go_at_call 98; (with_reducible refine (HW1.out _ HRD.out).mono ?_); rintro e w3 ⟨rfl, hb⟩; replace HZ := Lib.hid (HZ.out.below hb HZ.out.lt); replace HX := Lib.hid (HX.out.below hb HX.out.lt); replace HRD := Lib.hid (HRD.out.under hb (Nat.le_refl _)); replace HT := Lib.hid (HT.out.below hb); replace HB := Lib.hid (belowU HB.out hb); clear hb) | (go_at_call 98; (with_reducible refine (HW2.out _ HRD.out).mono ?_); rintro e w3 ⟨rfl, hb⟩; replace HZ := Lib.hid (HZ.out.below hb HZ.out.lt); replace HX := Lib.hid (HX.out.below hb HX.out.lt); replace HRD := Lib.hid (HRD.out.under hb (Nat.le_refl _)); replace HT := Lib.hid (HT.out.below hb); replace HB := Lib.hid (belowU HB.out hb); clear hb) | (go_at_call 14; (refine (HLS.out _ _ (HDR.out _ HRD.out) HT.out).mono ?_); rintro e w5 ⟨⟨L, u, rfl, hr, hq⟩, hb⟩; obtain ⟨ua, uc, rfl, _⟩ := hr.shape; have HWB := Lib.hid (show w.heap.size < _ from HZ.out.lt); have HGB := Lib.hid (show gx < _ from HX.out.lt); have HLR := Lib.hid hr; generalize (cxsDt L).length = n3 at *; replace HZ := Lib.hid (HZ.out.below hb HZ.out.lt); replace HX := Lib.hid (HX.out.below hb HX.out.lt); replace HRD := Lib.hid (HRD.out.under hb (Nat.le_refl _)); replace HT := Lib.hid (HT.out.below hb); replace HB := Lib.hid (belowU HB.out hb); clear hb hr))
          exact bodyPost_ret (v := .tuple #[.agg simZ, .bool false]) (results_cellT (by rfl) _ _ w.heap.size _ _ _ _ _ (by rfl) (by rfl) HFF.out Tryz.underlying72 (by rfl) sim_size) rfl ⟨⟨_, _, _, _, _, _, _, [], _, by rw [HRE.out]; rfl, by rw [cxsDt]; exact rdG.nil _ _ _ _ _, fun s h => by rw [HRE.out] at h; cases h⟩, HBF.out⟩
         | some all =>
          cases q
          · have HRE : Hid (R = none) := h1
            clear h1
            go_enter Tryz.func91, Tryz.ntmps91
            go_upto_region 1 with fail
            generalize w.alloc (.cells simZ 72) = W0 at *
            go_upto_region 2 with fail
            generalize W0.alloc (.cells _ 72) = W1 at *
            generalize W0.heap.size = gx at *
            go_upto_region 10 with (first | (go_at_call 96; (refine (HIX.out _ HRD.out).mono ?_); rintro e w3 ⟨rfl, hb⟩; replace HZ := Lib.hid (HZ.out.below hb HZ.out.lt); replace HX := Lib.hid (HX.out.below hb HX.out.lt); replace HRD := Lib.hid (HRD.out.under hb (Nat.le_refl _)); replace HT := Lib.hid (HT.out.below hb); replace HB := Lib.hid (belowU HB.out hb); clear hb) | (go_at_call 98; (with_reducible refine (HW1.out _ HRD.out).mono ?_); rintro e w3 ⟨rfl, hb⟩; replace HZ := Lib.hid (HZ.out.below hb HZ.out.lt); replace HX := Lib.hid (HX.out.below hb HX.out.lt); replace HRD := Lib.hid (HRD.out.under hb (Nat.le_refl _)); replace HT := Lib.hid (HT.out.below hb); replace HB := Lib.hid (belowU HB.out hb); clear hb) | (go_at_call 98; (with_reducible refine (HW2.out _ HRD.out).mono ?_); rintro e w3 ⟨rfl, hb⟩; replace HZ := Lib.hid (HZ.out.below hb HZ.out.lt); replace HX := Lib.hid (HX.out.below hb HX.out.lt); replace HRD := Lib.hid (HRD.out.under hb (Nat.le_refl _)); replace HT := Lib.hid (HT.out.below hb); replace HB := Lib.hid (belowU HB.out hb); clear hb) | (go_at_call 14; (refine (HLS.out _ _ (HDR.out _ HRD.out) HT.out).mono ?_); rintro e w5 ⟨⟨L, u, rfl, hr, hq⟩, hb⟩; obtain ⟨ua, uc, rfl, _⟩ := hr.shape; have HWB := Lib.hid (show w.heap.size < _ from HZ.out.lt); have HGB := Lib.hid (show gx < _ from HX.out.lt); have HLR := Lib.hid hr; generalize (cxsDt L).length = n3 at *; replace HZ := Lib.hid (HZ.out.below hb HZ.out.lt); replace HX := Lib.hid (HX.out.below hb HX.out.lt); replace HRD := Lib.hid (HRD.out.under hb (Nat.le_refl _)); replace HT := Lib.hid (HT.out.below hb); replace HB := Lib.hid (belowU HB.out hb); clear hb hr; have x7 : w5.cell? ⟨gx, 7, none⟩ = some (.slice none 0 0) := HX.out.cell 7; have xf7 : w5.frozen? ⟨gx, 7, none⟩ = false := HX.out.frozen 7))
            clear x7 xf7
            replace HX := Lib.hid (HX.out.simList (.slice ua n3 uc))
            replace HZ := Lib.hid (HZ.out.far (p := ⟨gx, 7, none⟩) HNE.out (.slice ua n3 uc))
            replace HB := Lib.hid (HB.out.setCell (p := ⟨gx, 7, none⟩) HLE.out (.slice ua n3 uc))
            replace HLR := Lib.hid (HLR.out.far1 (p := ⟨gx, 7, none⟩) HGB.out (.slice ua n3 uc))
            have hqa := hq all rfl
            subst hqa
            replace HRD := Lib.hid ((HRD.out.move (w' := w5.setCell ⟨gx, 7, none⟩ (.slice ua n3 uc)) (fun b hb _ => heap_setCell_other _ _ _ _ (HPX.out b hb)) (by simp)).take k (by rw [HN.out]; exact HKN.out))
            clear HT
            generalize w5.setCell _ _ = W5' at *
            go_upto_region 13 with (go_at_call 99; (refine (HPS.out _ HRD.out).mono ?_); rintro e w4 ⟨rfl, hb⟩; replace HZ := Lib.hid (HZ.out.below hb HZ.out.lt); replace HX := Lib.hid (HX.out.below hb HX.out.lt); replace HRD := Lib.hid (HRD.out.under hb (Nat.le_refl _)); replace HB := Lib.hid (belowU HB.out hb); replace HLR := Lib.hid (HLR.out.under hb (Nat.le_refl _)); clear hb; have x5 : w4.cell? ⟨gx, 5, none⟩ = some (.int .i64 0) := HX.out.cell 5; have x6 : w4.cell? ⟨gx, 6, none⟩ = some (.int .i64 0) := HX.out.cell 6; have xf5 : w4.frozen? ⟨gx, 5, none⟩ = false := HX.out.frozen 5; have xf6 : w4.frozen? ⟨gx, 6, none⟩ = false := HX.out.frozen 6)
            clear x5 x6 xf5 xf6
            replace HX := Lib.hid (HX.out.simAB pa pb)
            replace HZ := Lib.hid ((HZ.out.far (p := ⟨gx, 5, none⟩) HNE.out (.int .i64 pa)).far (p := ⟨gx, 6, none⟩) HNE.out (.int .i64 pb))
            replace HB := Lib.hid ((HB.out.setCell (p := ⟨gx, 5, none⟩) HLE.out (.int .i64 pa)).setCell (p := ⟨gx, 6, none⟩) HLE.out (.int .i64 pb))
            replace HLR := Lib.hid ((HLR.out.far1 (p := ⟨gx, 5, none⟩) HGB.out (.int .i64 pa)).far1 (p := ⟨gx, 6, none⟩) HGB.out (.int .i64 pb))
            generalize World.setCell (World.setCell _ _ _) _ _ = W6 at *
            have x0 : W6.cell? ⟨gx, 0, none⟩ = some (.int .i64 kind) := HX.out.cell 0
            have x1 : W6.cell? ⟨gx, 1, none⟩ = some (.string ⟨#[]⟩) := HX.out.cell 1
            have x2 : W6.cell? ⟨gx, 2, none⟩ = some (.string ⟨#[]⟩) := HX.out.cell 2
            have x3 : W6.cell? ⟨gx, 3, none⟩ = some (.string ⟨#[]⟩) := HX.out.cell 3
            have x4 : W6.cell? ⟨gx, 4, none⟩ = some (.bool false) := HX.out.cell 4
            have x5 : W6.cell? ⟨gx, 5, none⟩ = some (.int .i64 pa) := HX.out.cell 5
            have x6 : W6.cell? ⟨gx, 6, none⟩ = some (.int .i64 pb) := HX.out.cell 6
            have x7 : W6.cell? ⟨gx, 7, none⟩ = some (.slice ua n3 uc) := HX.out.cell 7
            go_wp2_with (have hbb := HX.out; refine wpList_store_mid (by rfl) 72 (.tmp 6) (.tmp 61) (by rfl) w.heap.size 0 (simC kind ⟨#[]⟩ ⟨#[]⟩ ⟨#[]⟩ false pa pb (.slice ua n3 uc)) (by rfl) (by rfl) (cbW_there HZ.out (n := 8) rfl) sim_size (sim_one _ _ _ _ _ _ _ _ _ _) ?_; have HFF := Lib.hid (show CB 72 _ w.heap.size (simC kind ⟨#[]⟩ ⟨#[]⟩ ⟨#[]⟩ false pa pb (.slice ua n3 uc)) from CB.sim HZ.out); have HBF := Lib.hid (setsW_below (Nat.le_refl _) (simC kind ⟨#[]⟩ ⟨#[]⟩ ⟨#[]⟩ false pa pb (.slice ua n3 uc)).toList 0 _ HB.out); have HTR := Lib.hid (rdG.sets2 (C := w.heap.size) HLR.out HWB.out (Nat.le_of_lt HWB.out) (simC kind ⟨#[]⟩ ⟨#[]⟩ ⟨#[]⟩ false pa pb (.slice ua n3 uc)).toList); generalize World.setCells _ w.heap.size 0 _ = W9 at *)
            exact bodyPost_ret (v := .tuple #[.agg (simC kind ⟨#[]⟩ ⟨#[]⟩ ⟨#[]⟩ false pa pb (.slice ua n3 uc)), .bool false]) (results_cellT (by rfl) _ _ w.heap.size _ _ _ _ _ (by rfl) (by rfl) HFF.out Tryz.underlying72 (by rfl) sim_size) rfl ⟨⟨kind, ⟨#[]⟩, ⟨#[]⟩, ⟨#[]⟩, false, pa, pb, all, _, by rw [HRE.out]; rfl, HTR.out, fun s h => by rw [HRE.out] at h; cases h⟩, HBF.out⟩
          · have HRE : Hid (R = some (.mk kind ⟨#[]⟩ ⟨#[]⟩ ⟨#[]⟩ false pa pb all)) := h1
            clear h1
            go_enter Tryz.func91, Tryz.ntmps91
            go_upto_region 1 with fail
            generalize w.alloc (.cells simZ 72) = W0 at *
            go_upto_region 2 with fail
            generalize W0.alloc (.cells _ 72) = W1 at *
            generalize W0.heap.size = gx at *
            go_upto_region 10 with (first | (go_at_call 96; (refine (HIX.out _ HRD.out).mono ?_); rintro e w3 ⟨rfl, hb⟩; replace HZ := Lib.hid (HZ.out.below hb HZ.out.lt); replace HX := Lib.hid (HX.out.below hb HX.out.lt); replace HRD := Lib.hid (HRD.out.under hb (Nat.le_refl _)); replace HT := Lib.hid (HT.out.below hb); replace HB := Lib.hid (belowU HB.out hb); clear hb) | (go_at_call 98; (with_reducible refine (HW1.out _ HRD.out).mono ?_); rintro e w3 ⟨rfl, hb⟩; replace HZ := Lib.hid (HZ.out.below hb HZ.out.lt); replace HX := Lib.hid (HX.out.below hb HX.out.lt); replace HRD := Lib.hid (HRD.out.under hb (Nat.le_refl _)); replace HT := Lib.hid (HT.out.below hb); replace HB := Lib.hid (belowU HB.out hb); clear hb) | (go_at_call 98; (with_reducible refine (HW2.out _ HRD.out).mono ?_); rintro e w3 ⟨rfl, hb⟩; replace HZ := Lib.hid (HZ.out.below hb HZ.out.lt); replace HX := Lib.hid (HX.out.below hb HX.out.lt); replace HRD := Lib.hid (HRD.out.under hb (Nat.le_refl _)); replace HT := Lib.hid (HT.out.below hb); replace HB := Lib.hid (belowU HB.out hb); clear hb) | (go_at_call 14; (refine (HLS.out _ _ (HDR.out _ HRD.out) HT.out).mono ?_); rintro e w5 ⟨⟨L, u, rfl, hr, hq⟩, hb⟩; obtain ⟨ua, uc, rfl, _⟩ := hr.shape; have HWB := Lib.hid (show w.heap.size < _ from HZ.out.lt); have HGB := Lib.hid (show gx < _ from HX.out.lt); have HLR := Lib.hid hr; generalize (cxsDt L).length = n3 at *; replace HZ := Lib.hid (HZ.out.below hb HZ.out.lt); replace HX := Lib.hid (HX.out.below hb HX.out.lt); replace HRD := Lib.hid (HRD.out.under hb (Nat.le_refl _)); replace HT := Lib.hid (HT.out.below hb); replace HB := Lib.hid (belowU HB.out hb); clear hb hr; have x7 : w5.cell? ⟨gx, 7, none⟩ = some (.slice none 0 0) := HX.out.cell 7; have xf7 : w5.frozen? ⟨gx, 7, none⟩ = false := HX.out.frozen 7))
            clear x7 xf7
            replace HX := Lib.hid (HX.out.simList (.slice ua n3 uc))
            replace HZ := Lib.hid (HZ.out.far (p := ⟨gx, 7, none⟩) HNE.out (.slice ua n3 uc))
            replace HB := Lib.hid (HB.out.setCell (p := ⟨gx, 7, none⟩) HLE.out (.slice ua n3 uc))
            replace HLR := Lib.hid (HLR.out.far1 (p := ⟨gx, 7, none⟩) HGB.out (.slice ua n3 uc))
            have hqa := hq all rfl
            subst hqa
            replace HRD := Lib.hid ((HRD.out.move (w' := w5.setCell ⟨gx, 7, none⟩ (.slice ua n3 uc)) (fun b hb _ => heap_setCell_other _ _ _ _ (HPX.out b hb)) (by simp)).take k (by rw [HN.out]; exact HKN.out))
            clear HT
            generalize w5.setCell _ _ = W5' at *
            go_upto_region 13 with (go_at_call 99; (refine (HPS.out _ HRD.out).mono ?_); rintro e w4 ⟨rfl, hb⟩; replace HZ := Lib.hid (HZ.out.below hb HZ.out.lt); replace HX := Lib.hid (HX.out.below hb HX.out.lt); replace HRD := Lib.hid (HRD.out.under hb (Nat.le_refl _)); replace HB := Lib.hid (belowU HB.out hb); replace HLR := Lib.hid (HLR.out.under hb (Nat.le_refl _)); clear hb; have x5 : w4.cell? ⟨gx, 5, none⟩ = some (.int .i64 0) := HX.out.cell 5; have x6 : w4.cell? ⟨gx, 6, none⟩ = some (.int .i64 0) := HX.out.cell 6; have xf5 : w4.frozen? ⟨gx, 5, none⟩ = false := HX.out.frozen 5; have xf6 : w4.frozen? ⟨gx, 6, none⟩ = false := HX.out.frozen 6)
            clear x5 x6 xf5 xf6
            replace HX := Lib.hid (HX.out.simAB pa pb)
            replace HZ := Lib.hid ((HZ.out.far (p := ⟨gx, 5, none⟩) HNE.out (.int .i64 pa)).far (p := ⟨gx, 6, none⟩) HNE.out (.int .i64 pb))
            replace HB := Lib.hid ((HB.out.setCell (p := ⟨gx, 5, none⟩) HLE.out (.int .i64 pa)).setCell (p := ⟨gx, 6, none⟩) HLE.out (.int .i64 pb))
            replace HLR := Lib.hid ((HLR.out.far1 (p := ⟨gx, 5, none⟩) HGB.out (.int .i64 pa)).far1 (p := ⟨gx, 6, none⟩) HGB.out (.int .i64 pb))
            generalize World.setCell (World.setCell _ _ _) _ _ = W6 at *
            have x0 : W6.cell? ⟨gx, 0, none⟩ = some (.int .i64 kind) := HX.out.cell 0
            have x1 : W6.cell? ⟨gx, 1, none⟩ = some (.string ⟨#[]⟩) := HX.out.cell 1
            have x2 : W6.cell? ⟨gx, 2, none⟩ = some (.string ⟨#[]⟩) := HX.out.cell 2
            have x3 : W6.cell? ⟨gx, 3, none⟩ = some (.string ⟨#[]⟩) := HX.out.cell 3
            have x4 : W6.cell? ⟨gx, 4, none⟩ = some (.bool false) := HX.out.cell 4
            have x5 : W6.cell? ⟨gx, 5, none⟩ = some (.int .i64 pa) := HX.out.cell 5
            have x6 : W6.cell? ⟨gx, 6, none⟩ = some (.int .i64 pb) := HX.out.cell 6
            have x7 : W6.cell? ⟨gx, 7, none⟩ = some (.slice ua n3 uc) := HX.out.cell 7
            go_wp2_with (have hbb := HX.out; refine wpList_store_mid (by rfl) 72 (.tmp 6) (.tmp 61) (by rfl) w.heap.size 0 (simC kind ⟨#[]⟩ ⟨#[]⟩ ⟨#[]⟩ false pa pb (.slice ua n3 uc)) (by rfl) (by rfl) (cbW_there HZ.out (n := 8) rfl) sim_size (sim_one _ _ _ _ _ _ _ _ _ _) ?_; have HFF := Lib.hid (show CB 72 _ w.heap.size (simC kind ⟨#[]⟩ ⟨#[]⟩ ⟨#[]⟩ false pa pb (.slice ua n3 uc)) from CB.sim HZ.out); have HBF := Lib.hid (setsW_below (Nat.le_refl _) (simC kind ⟨#[]⟩ ⟨#[]⟩ ⟨#[]⟩ false pa pb (.slice ua n3 uc)).toList 0 _ HB.out); have HTR := Lib.hid (rdG.sets2 (C := w.heap.size) HLR.out HWB.out (Nat.le_of_lt HWB.out) (simC kind ⟨#[]⟩ ⟨#[]⟩ ⟨#[]⟩ false pa pb (.slice ua n3 uc)).toList); generalize World.setCells _ w.heap.size 0 _ = W9 at *)
            exact bodyPost_ret (v := .tuple #[.agg (simC kind ⟨#[]⟩ ⟨#[]⟩ ⟨#[]⟩ false pa pb (.slice ua n3 uc)), .bool true]) (results_cellT (by rfl) _ _ w.heap.size _ _ _ _ _ (by rfl) (by rfl) HFF.out Tryz.underlying72 (by rfl) sim_size) rfl ⟨⟨kind, ⟨#[]⟩, ⟨#[]⟩, ⟨#[]⟩, false, pa, pb, all, _, by rw [HRE.out]; rfl, HTR.out, fun s h => by rw [HRE.out] at h; cases h; rfl⟩, HBF.out⟩
end Go.Proofs.YtclicjiakkcfcaaGreatDoor
