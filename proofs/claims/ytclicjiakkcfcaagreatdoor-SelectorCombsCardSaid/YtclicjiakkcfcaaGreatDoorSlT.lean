import Derived.Test.YtclicjiakkcfcaaGreatDoorSlP
import Derived.Deep.RegionHeld3
set_option maxRecDepth 100000
set_option maxHeartbeats 6400000
namespace Go.Proofs.YtclicjiakkcfcaaGreatDoor
open Go.RowKit
theorem Gw.toBelow {B b : Nat} {w0 w w' : World} (h : Gw b w w') (hB : Below B w0 w) (hb : B ≤ b) (h0 : B ≤ w0.heap.size) : Below B w0 w' :=
 ⟨h.os.trans hB.os, h.tape.trans hB.tape, h.output.trans hB.output, Nat.le_trans hB.size h.size, fun k hk => (h.block k (Nat.lt_of_lt_of_le hk (Nat.le_trans h0 hB.size)) (fun e => by have := Option.some.inj e; omega)).trans (hB.block k hk)⟩
theorem belowU {B : Nat} {w w1 w2 : World} (h1 : Below B w w1) (h2 : Below w1.heap.size w1 w2) (h0 : B ≤ w.heap.size := by exact Nat.le_refl _) : Below B w w2 :=
 ⟨h2.os.trans h1.os, h2.tape.trans h1.tape, h2.output.trans h1.output, Nat.le_trans h1.size h2.size, fun k hk => (h2.block k (Nat.lt_of_lt_of_le hk (Nat.le_trans h0 h1.size))).trans (h1.block k hk)⟩
section
variable {w : World} {g : Nat} {k : Int} {n o x : ByteArray} {f : Bool} {a b : Int} {u : Value}
theorem CB.simOp (h : CB 72 w g (simC k n o x f a b u)) (o' : ByteArray) : CB 72 (w.setCell ⟨g, 2, none⟩ (.string o')) g (simC k n o' x f a b u) := by
 have h1 := h.set 2 (.string o')
 rw [show (simC k n o x f a b u).setIfInBounds 2 (.string o') = simC k n o' x f a b u by kernel_rfl] at h1
 exact h1
theorem CB.simVal (h : CB 72 w g (simC k n o x f a b u)) (x' : ByteArray) : CB 72 (w.setCell ⟨g, 3, none⟩ (.string x')) g (simC k n o x' f a b u) := by
 have h1 := h.set 3 (.string x')
 rw [show (simC k n o x f a b u).setIfInBounds 3 (.string x') = simC k n o x' f a b u by kernel_rfl] at h1
 exact h1
theorem CB.simFold (h : CB 72 w g (simC k n o x f a b u)) (f' : Bool) : CB 72 (w.setCell ⟨g, 4, none⟩ (.bool f')) g (simC k n o x f' a b u) := by
 have h1 := h.set 4 (.bool f')
 rw [show (simC k n o x f a b u).setIfInBounds 4 (.bool f') = simC k n o x f' a b u by kernel_rfl] at h1
 exact h1
end
theorem attr_row (K : Int) (n o x : ByteArray) (f : Bool) (t : Bool) (Q : Nat → Prop) {w' : World} : SimPost Q (if t = true then some (.mk K n o x f 0 0 []) else none) (.returned (.tuple #[.agg (simC K n o x f 0 0 (.slice none 0 0)), .bool t])) w' := by
 cases t
 · exact simPost_no _ _ _ _ _ _ _ _ _ _ _
 · exact simPost_yes _ _ _ _ _ _ _ _ _ _ _
theorem opR_eq (r : List Nd) : opR r = if (opT r).2 = true then some ((opT r).1, opQ r) else none := by
 unfold opT opQ
 cases opR r with
 | none => rfl
 | some p => rfl
theorem attrS_steps (l : List Nd) : attrS l = if (lowerR (whiteR l)).2.1 = true then (if (whiteR (lowerR (whiteR l)).2.2).isEmpty = true then some (.mk 3 (lowerR (whiteR l)).1 ⟨#[]⟩ ⟨#[]⟩ false 0 0 []) else if (opT (whiteR (lowerR (whiteR l)).2.2)).2 = true then attrVal (lowerR (whiteR l)).1 (opT (whiteR (lowerR (whiteR l)).2.2)).1 (whiteR (opQ (whiteR (lowerR (whiteR l)).2.2))) else none) else none := by
 unfold attrS
 rw [opR_eq]
 by_cases c : (opT (whiteR (lowerR (whiteR l)).2.2)).2 = true
 · rw [if_pos c, if_pos c]
 · rw [if_neg c, if_neg c]
structure AttrSt (l r1 : List Nd) (T1 : ByteArray) (ok1 : Bool) (r2 r3 : List Nd) (e3 : Bool) (O : ByteArray) (ok2 : Bool) (r4 r5 : List Nd) (K5 : Int) (V : ByteArray) (r6 r7 : List Nd) (e7 : Bool) (T7 : ByteArray) (ok7 : Bool) (r8 : List Nd) (e8 : Bool) : Prop where
  h1 : whiteR l = r1
  h2 : lowerR r1 = (T1, ok1, r2)
  h3 : whiteR r2 = r3
  h3e : r3.isEmpty = e3
  h4 : opT r3 = (O, ok2)
  h4q : opQ r3 = r4
  h5 : whiteR r4 = r5
  h5k : kindA r5 0 = K5
  h5v : (atK r5 0).tok.text = V
  h6 : r5.tail = r6
  h7 : whiteR r6 = r7
  h7e : r7.isEmpty = e7
  h8 : lowerR r7 = (T7, ok7, r8)
  h8e : r8.isEmpty = e8
theorem kind_pos {r : List Nd} {K : Int} (h : kindA r 0 = K) (hK : K ≠ 0) : 0 < r.length := by
 cases r with
 | nil => exact absurd h.symm hK
 | cons a r => exact Nat.succ_pos _
section
variable {Q : Nat → Prop} {gb : Nat} {v : Value} {l r r' : List Nd}
theorem aW (h : whiteR r = r') (W W' : World) (hs : SR Q W' gb v l 0 r W) : Calls Tryz.prog 37 #[.pointer (some ⟨gb, 0, none⟩)] W fun e w' => (∃ c, e = .returned (.bool c)) ∧ SR Q W gb v l 0 r' w' := (white_r hs).mono fun e w' ⟨h1, h2⟩ => ⟨⟨_, h1⟩, by rw [h] at h2; exact h2⟩
theorem aL {T : ByteArray} {o : Bool} (hx : txD l) (h : lowerR r = (T, o, r')) (W W' : World) (hs : SR Q W' gb v l 0 r W) : Calls Tryz.prog 77 #[.pointer (some ⟨gb, 0, none⟩)] W fun e w' => e = .returned (.tuple #[.string T, .bool o]) ∧ SR Q W gb v l 0 r' w' := (lower_r hs hx).mono fun e w' ⟨h1, h2⟩ => by rw [h] at h1 h2; exact ⟨h1, h2⟩
theorem aE {o : Bool} (h : r.isEmpty = o) (W W' : World) (hs : SR Q W' gb v l 0 r W) : Calls Tryz.prog 40 #[.pointer (some ⟨gb, 0, none⟩)] W fun e w' => e = .returned (.bool o) ∧ Below W.heap.size W w' := (ended_r hs).mono fun e w' ⟨h1, h2⟩ => ⟨by rw [h] at h1; exact h1, h2⟩
theorem aO {T : ByteArray} {o : Bool} (hx : txD l) (h : opT r = (T, o)) (hq : opQ r = r') (W W' : World) (hs : SR Q W' gb v l 0 r W) : Calls Tryz.prog 87 #[.pointer (some ⟨gb, 0, none⟩)] W fun e w' => e = .returned (.tuple #[.string T, .bool o]) ∧ SR Q W gb v l 0 r' w' := (op_r hs hx).mono fun e w' ⟨h1, h2⟩ => by rw [h] at h1; rw [hq] at h2; exact ⟨h1, h2⟩
theorem aT (hr : 0 < r.length) (h : r.tail = r') (W W' : World) (hs : SR Q W' gb v l 0 r W) : Calls Tryz.prog 78 #[.pointer (some ⟨gb, 0, none⟩)] W fun e w' => (∃ u, e = .returned (nval (atK r 0).tok u) ∧ RdN w' Q u (atK r 0).kids) ∧ SR Q W gb v l 0 r' w' := (take_r hs hr).mono fun e w' ⟨h1, h2⟩ => ⟨h1, by rw [h] at h2; exact h2⟩
end
theorem attr_pre (w : World) (v : Value) : Hid (Below w.heap.size w ((w.alloc (.cells simZ 72)).alloc (.cells #[v, .int .i64 0, .int .i64 0] 90))) ∧ Hid (CB 72 ((w.alloc (.cells simZ 72)).alloc (.cells #[v, .int .i64 0, .int .i64 0] 90)) w.heap.size simZ) ∧ Hid (Gw (w.alloc (.cells simZ 72)).heap.size ((w.alloc (.cells simZ 72)).alloc (.cells #[v, .int .i64 0, .int .i64 0] 90)) ((w.alloc (.cells simZ 72)).alloc (.cells #[v, .int .i64 0, .int .i64 0] 90))) ∧ (w.alloc (.cells simZ 72)).heap.size = w.heap.size + 1 ∧ w.heap.size ≤ ((w.alloc (.cells simZ 72)).alloc (.cells #[v, .int .i64 0, .int .i64 0] 90)).heap.size ∧ ((w.alloc (.cells simZ 72)).alloc (.cells #[v, .int .i64 0, .int .i64 0] 90)).heap.size = (w.alloc (.cells simZ 72)).heap.size + 1 :=
 ⟨((Below.refl w.heap.size w).alloc (Nat.le_refl _) (.cells simZ 72)).alloc (by simp) (.cells #[v, .int .i64 0, .int .i64 0] 90), (CB.new (T := 72) w simZ).alloc (.cells #[v, .int .i64 0, .int .i64 0] 90), Gw.refl _ _, by simp, by simp; omega, by simp⟩
theorem sattr_A {P : Nat → Prop} {w : World} {v : Value} {l r1 : List Nd} {T1 : ByteArray} {ok1 : Bool} {r2 r3 : List Nd} {e3 : Bool} {O : ByteArray} {ok2 : Bool} {r4 r5 : List Nd} {K5 : Int} {V : ByteArray} {r6 r7 : List Nd} {e7 : Bool} {T7 : ByteArray} {ok7 : Bool} {r8 : List Nd} {e8 : Bool} (A : AttrSt l r1 T1 ok1 r2 r3 e3 O ok2 r4 r5 K5 V r6 r7 e7 T7 ok7 r8 e8) (h : RdN w P v l) (hl : szL l ≤ 100000000) (hx : txD l) (q1 : ok1 = false) :
    Calls Tryz.prog 80 #[v] w fun e w' => SimPost (fun g => w.heap.size ≤ g) none e w' ∧ Below w.heap.size w w' := by
  subst q1
  obtain ⟨HB, HZ, HG, hsz0, hszw, hsz1⟩ := attr_pre w v
  have HS0 := SR.start (h.under ((Below.refl w.heap.size w).alloc (Nat.le_refl _) (.cells simZ 72)) (Nat.le_refl _)) hl 0
  obtain ⟨a, vc, rfl, _⟩ := h.shape
  generalize (fun k => P k ∧ k < (w.alloc (.cells simZ 72)).heap.size) = Q at HS0
  have HS := Lib.hid HS0
  clear HS0 h
  obtain ⟨h1, h2, h3, h3e, h4, h4q, h5, h5k, h5v, h6, h7, h7e, h8, h8e⟩ := A
  generalize hgb : (w.alloc (.cells simZ 72)).heap.size = gb at *
  have HW0 := Lib.hid (aW (Q := Q) (gb := gb) (v := .slice a l.length vc) (l := l) h1)
  have HL1 := Lib.hid (aL (Q := Q) (gb := gb) (v := .slice a l.length vc) hx h2)
  clear h1 h2 h3 h3e h4 h4q h5 h5k h5v h6 h7 h7e h8 h8e hl hx
  have HSZ0 := Lib.hid hsz0
  have HW01 := Lib.hid hsz1
  have HSZW := Lib.hid hszw
  have HNE : Hid (w.heap.size ≠ gb) := by show _ ≠ _; omega
  have HLE : Hid (w.heap.size ≤ gb) := by show _ ≤ _; omega
  clear hsz0 hsz1 hszw
  subst hgb
  generalize l.length = NN at *
  go_enter Tryz.func80, Tryz.ntmps80
  go_upto_region 1 with fail
  generalize w.alloc (.cells simZ 72) = W0 at *
  go_upto_region 2 with fail
  generalize W0.alloc (.cells _ 90) = W1 at *
  go_wp2_with (first | (have hbb := HS.out; refine wpList_store_mid (by rfl) 72 (.tmp 2) (.tmp 19) (by rfl) w.heap.size 0 simZ (by rfl) (by rfl) (cbW_there (HZ.out.gw HG.out HNE.out) (n := 8) rfl) sim_size simZ_one ?_; have HFF := Lib.hid (show CB 72 _ w.heap.size simZ from CB.sim (HZ.out.gw HG.out HNE.out)); have HBF := Lib.hid (setsW_below (Nat.le_refl _) simZ.toList 0 _ (HG.out.toBelow HB.out HLE.out (Nat.le_refl _))); generalize World.setCells _ w.heap.size 0 _ = W9 at *) | (go_at_call 37; (first | refine (HW0.out _ _ HS.out).mono ?_); rintro e w9 ⟨⟨c, rfl⟩, hs⟩; replace HG := Lib.hid (HG.out.trans hs.gw); replace HS := Lib.hid (HS.out.since hs); clear hs) | (go_at_call 77; (first | refine (HL1.out _ _ HS.out).mono ?_); rintro e w9 ⟨rfl, hs⟩; replace HG := Lib.hid (HG.out.trans hs.gw); replace HS := Lib.hid (HS.out.since hs); clear hs))
  exact bodyPost_ret (v := .tuple #[.agg simZ, .bool false]) (results_cellT (by rfl) _ _ w.heap.size _ _ _ _ _ (by rfl) (by rfl) HFF.out Tryz.underlying72 (by rfl) sim_size) rfl ⟨simPost_no _ _ _ _ _ _ _ _ _ _ _, HBF.out⟩
theorem sattr_B {P : Nat → Prop} {w : World} {v : Value} {l r1 : List Nd} {T1 : ByteArray} {ok1 : Bool} {r2 r3 : List Nd} {e3 : Bool} {O : ByteArray} {ok2 : Bool} {r4 r5 : List Nd} {K5 : Int} {V : ByteArray} {r6 r7 : List Nd} {e7 : Bool} {T7 : ByteArray} {ok7 : Bool} {r8 : List Nd} {e8 : Bool} (A : AttrSt l r1 T1 ok1 r2 r3 e3 O ok2 r4 r5 K5 V r6 r7 e7 T7 ok7 r8 e8) (h : RdN w P v l) (hl : szL l ≤ 100000000) (hx : txD l) (q1 : ok1 = true) (q3 : e3 = true) :
    Calls Tryz.prog 80 #[v] w fun e w' => SimPost (fun g => w.heap.size ≤ g) (some (.mk 3 T1 ⟨#[]⟩ ⟨#[]⟩ false 0 0 [])) e w' ∧ Below w.heap.size w w' := by
  subst q1 q3
  obtain ⟨HB, HZ, HG, hsz0, hszw, hsz1⟩ := attr_pre w v
  have HS0 := SR.start (h.under ((Below.refl w.heap.size w).alloc (Nat.le_refl _) (.cells simZ 72)) (Nat.le_refl _)) hl 0
  obtain ⟨a, vc, rfl, _⟩ := h.shape
  generalize (fun k => P k ∧ k < (w.alloc (.cells simZ 72)).heap.size) = Q at HS0
  have HS := Lib.hid HS0
  clear HS0 h
  obtain ⟨h1, h2, h3, h3e, h4, h4q, h5, h5k, h5v, h6, h7, h7e, h8, h8e⟩ := A
  generalize hgb : (w.alloc (.cells simZ 72)).heap.size = gb at *
  have HW0 := Lib.hid (aW (Q := Q) (gb := gb) (v := .slice a l.length vc) (l := l) h1)
  have HW2 := Lib.hid (aW (Q := Q) (gb := gb) (v := .slice a l.length vc) (l := l) h3)
  have HL1 := Lib.hid (aL (Q := Q) (gb := gb) (v := .slice a l.length vc) hx h2)
  have HE3 := Lib.hid (aE (Q := Q) (gb := gb) (v := .slice a l.length vc) (l := l) h3e)
  clear h1 h2 h3 h3e h4 h4q h5 h5k h5v h6 h7 h7e h8 h8e hl hx
  have HSZ0 := Lib.hid hsz0
  have HW01 := Lib.hid hsz1
  have HSZW := Lib.hid hszw
  have HNE : Hid (w.heap.size ≠ gb) := by show _ ≠ _; omega
  have HLE : Hid (w.heap.size ≤ gb) := by show _ ≤ _; omega
  clear hsz0 hsz1 hszw
  subst hgb
  generalize l.length = NN at *
  go_enter Tryz.func80, Tryz.ntmps80
  go_upto_region 1 with fail
  generalize w.alloc (.cells simZ 72) = W0 at *
  go_upto_region 2 with fail
  generalize W0.alloc (.cells _ 90) = W1 at *
  go_upto_region 7 with (first | (go_at_call 37; (first | refine (HW0.out _ _ HS.out).mono ?_); rintro e w9 ⟨⟨c, rfl⟩, hs⟩; replace HG := Lib.hid (HG.out.trans hs.gw); replace HS := Lib.hid (HS.out.since hs); clear hs) | (go_at_call 77; (first | refine (HL1.out _ _ HS.out).mono ?_); rintro e w9 ⟨rfl, hs⟩; replace HG := Lib.hid (HG.out.trans hs.gw); replace HS := Lib.hid (HS.out.since hs); clear hs; have hbn := (Below.refl w9.heap.size w9).alloc (Nat.le_refl _) (.cells (simC 3 T1 ⟨#[]⟩ ⟨#[]⟩ false 0 0 (.slice none 0 0)) 72); have HX := Lib.hid (CB.new (T := 72) w9 (simC 3 T1 ⟨#[]⟩ ⟨#[]⟩ false 0 0 (.slice none 0 0))); have HGX := Lib.hid (show W1.heap.size ≤ w9.heap.size from HG.out.size); replace HZ := Lib.hid ((HZ.out.gw HG.out HNE.out).alloc (.cells (simC 3 T1 ⟨#[]⟩ ⟨#[]⟩ false 0 0 (.slice none 0 0)) 72)); replace HB := Lib.hid ((HG.out.toBelow HB.out HLE.out (Nat.le_refl _)).alloc (Nat.le_trans HSZW.out HG.out.size) (.cells (simC 3 T1 ⟨#[]⟩ ⟨#[]⟩ false 0 0 (.slice none 0 0)) 72)); replace HS := Lib.hid (HS.out.below hbn); replace HG := Lib.hid (Gw.refl W0.heap.size (w9.alloc (.cells (simC 3 T1 ⟨#[]⟩ ⟨#[]⟩ false 0 0 (.slice none 0 0)) 72))); clear hbn))
  generalize w9.alloc (.cells _ 72) = W2 at *
  generalize w9.heap.size = gx at *
  have hgx := HGX.out
  go_wp2_with (first | (have hbb := HS.out; refine wpList_store_mid (by rfl) 72 (.tmp 2) (.tmp 24) (by rfl) w.heap.size 0 (simC 3 T1 ⟨#[]⟩ ⟨#[]⟩ false 0 0 (.slice none 0 0)) (by rfl) (by rfl) (cbW_there (HZ.out.gw HG.out HNE.out) (n := 8) rfl) sim_size (sim_one _ _ _ _ _ _ _ _ _ _) ?_; have HFF := Lib.hid (show CB 72 _ w.heap.size (simC 3 T1 ⟨#[]⟩ ⟨#[]⟩ false 0 0 (.slice none 0 0)) from CB.sim (HZ.out.gw HG.out HNE.out)); have HBF := Lib.hid (setsW_below (Nat.le_refl _) (simC 3 T1 ⟨#[]⟩ ⟨#[]⟩ false 0 0 (.slice none 0 0)).toList 0 _ (HG.out.toBelow HB.out HLE.out (Nat.le_refl _))); generalize World.setCells _ w.heap.size 0 _ = W9 at *) | (go_at_call 37; (first | refine (HW2.out _ _ HS.out).mono ?_); rintro e w9 ⟨⟨c, rfl⟩, hs⟩; replace HG := Lib.hid (HG.out.trans hs.gw); replace HS := Lib.hid (HS.out.since hs); clear hs) | (go_at_call 40; (first | refine (HE3.out _ _ HS.out).mono ?_); rintro e w9 ⟨rfl, hb⟩; replace HG := Lib.hid (HG.out.belowS hb); replace HS := Lib.hid (HS.out.below hb); clear hb; have x0 : w9.cell? ⟨gx, 0, none⟩ = some (.int .i64 3) := (HX.out.gw HG.out (show gx ≠ W0.heap.size by have := HGX.out; have := HW01.out; have := HSZ0.out; omega)).cell 0; have x1 : w9.cell? ⟨gx, 1, none⟩ = some (.string T1) := (HX.out.gw HG.out (show gx ≠ W0.heap.size by have := HGX.out; have := HW01.out; have := HSZ0.out; omega)).cell 1; have x2 : w9.cell? ⟨gx, 2, none⟩ = some (.string ⟨#[]⟩) := (HX.out.gw HG.out (show gx ≠ W0.heap.size by have := HGX.out; have := HW01.out; have := HSZ0.out; omega)).cell 2; have x3 : w9.cell? ⟨gx, 3, none⟩ = some (.string ⟨#[]⟩) := (HX.out.gw HG.out (show gx ≠ W0.heap.size by have := HGX.out; have := HW01.out; have := HSZ0.out; omega)).cell 3; have x4 : w9.cell? ⟨gx, 4, none⟩ = some (.bool false) := (HX.out.gw HG.out (show gx ≠ W0.heap.size by have := HGX.out; have := HW01.out; have := HSZ0.out; omega)).cell 4; have x5 : w9.cell? ⟨gx, 5, none⟩ = some (.int .i64 0) := (HX.out.gw HG.out (show gx ≠ W0.heap.size by have := HGX.out; have := HW01.out; have := HSZ0.out; omega)).cell 5; have x6 : w9.cell? ⟨gx, 6, none⟩ = some (.int .i64 0) := (HX.out.gw HG.out (show gx ≠ W0.heap.size by have := HGX.out; have := HW01.out; have := HSZ0.out; omega)).cell 6; have x7 : w9.cell? ⟨gx, 7, none⟩ = some (.slice none 0 0) := (HX.out.gw HG.out (show gx ≠ W0.heap.size by have := HGX.out; have := HW01.out; have := HSZ0.out; omega)).cell 7))
  exact bodyPost_ret (v := .tuple #[.agg (simC 3 T1 ⟨#[]⟩ ⟨#[]⟩ false 0 0 (.slice none 0 0)), .bool true]) (results_cellT (by rfl) _ _ w.heap.size _ _ _ _ _ (by rfl) (by rfl) HFF.out Tryz.underlying72 (by rfl) sim_size) rfl ⟨simPost_yes _ _ _ _ _ _ _ _ _ _ _, HBF.out⟩
theorem sattr_C {P : Nat → Prop} {w : World} {v : Value} {l r1 : List Nd} {T1 : ByteArray} {ok1 : Bool} {r2 r3 : List Nd} {e3 : Bool} {O : ByteArray} {ok2 : Bool} {r4 r5 : List Nd} {K5 : Int} {V : ByteArray} {r6 r7 : List Nd} {e7 : Bool} {T7 : ByteArray} {ok7 : Bool} {r8 : List Nd} {e8 : Bool} (A : AttrSt l r1 T1 ok1 r2 r3 e3 O ok2 r4 r5 K5 V r6 r7 e7 T7 ok7 r8 e8) (h : RdN w P v l) (hl : szL l ≤ 100000000) (hx : txD l) (q1 : ok1 = true) (q3 : e3 = false) (q4 : ok2 = false) :
    Calls Tryz.prog 80 #[v] w fun e w' => SimPost (fun g => w.heap.size ≤ g) none e w' ∧ Below w.heap.size w w' := by
  subst q1 q3 q4
  obtain ⟨HB, HZ, HG, hsz0, hszw, hsz1⟩ := attr_pre w v
  have HS0 := SR.start (h.under ((Below.refl w.heap.size w).alloc (Nat.le_refl _) (.cells simZ 72)) (Nat.le_refl _)) hl 0
  obtain ⟨a, vc, rfl, _⟩ := h.shape
  generalize (fun k => P k ∧ k < (w.alloc (.cells simZ 72)).heap.size) = Q at HS0
  have HS := Lib.hid HS0
  clear HS0 h
  obtain ⟨h1, h2, h3, h3e, h4, h4q, h5, h5k, h5v, h6, h7, h7e, h8, h8e⟩ := A
  generalize hgb : (w.alloc (.cells simZ 72)).heap.size = gb at *
  have HW0 := Lib.hid (aW (Q := Q) (gb := gb) (v := .slice a l.length vc) (l := l) h1)
  have HW2 := Lib.hid (aW (Q := Q) (gb := gb) (v := .slice a l.length vc) (l := l) h3)
  have HL1 := Lib.hid (aL (Q := Q) (gb := gb) (v := .slice a l.length vc) hx h2)
  have HE3 := Lib.hid (aE (Q := Q) (gb := gb) (v := .slice a l.length vc) (l := l) h3e)
  have HO3 := Lib.hid (aO (Q := Q) (gb := gb) (v := .slice a l.length vc) hx h4 h4q)
  clear h1 h2 h3 h3e h4 h4q h5 h5k h5v h6 h7 h7e h8 h8e hl hx
  have HSZ0 := Lib.hid hsz0
  have HW01 := Lib.hid hsz1
  have HSZW := Lib.hid hszw
  have HNE : Hid (w.heap.size ≠ gb) := by show _ ≠ _; omega
  have HLE : Hid (w.heap.size ≤ gb) := by show _ ≤ _; omega
  clear hsz0 hsz1 hszw
  subst hgb
  generalize l.length = NN at *
  go_enter Tryz.func80, Tryz.ntmps80
  go_upto_region 1 with fail
  generalize w.alloc (.cells simZ 72) = W0 at *
  go_upto_region 2 with fail
  generalize W0.alloc (.cells _ 90) = W1 at *
  go_upto_region 7 with (first | (go_at_call 37; (first | refine (HW0.out _ _ HS.out).mono ?_); rintro e w9 ⟨⟨c, rfl⟩, hs⟩; replace HG := Lib.hid (HG.out.trans hs.gw); replace HS := Lib.hid (HS.out.since hs); clear hs) | (go_at_call 77; (first | refine (HL1.out _ _ HS.out).mono ?_); rintro e w9 ⟨rfl, hs⟩; replace HG := Lib.hid (HG.out.trans hs.gw); replace HS := Lib.hid (HS.out.since hs); clear hs; have hbn := (Below.refl w9.heap.size w9).alloc (Nat.le_refl _) (.cells (simC 3 T1 ⟨#[]⟩ ⟨#[]⟩ false 0 0 (.slice none 0 0)) 72); have HX := Lib.hid (CB.new (T := 72) w9 (simC 3 T1 ⟨#[]⟩ ⟨#[]⟩ false 0 0 (.slice none 0 0))); have HGX := Lib.hid (show W1.heap.size ≤ w9.heap.size from HG.out.size); replace HZ := Lib.hid ((HZ.out.gw HG.out HNE.out).alloc (.cells (simC 3 T1 ⟨#[]⟩ ⟨#[]⟩ false 0 0 (.slice none 0 0)) 72)); replace HB := Lib.hid ((HG.out.toBelow HB.out HLE.out (Nat.le_refl _)).alloc (Nat.le_trans HSZW.out HG.out.size) (.cells (simC 3 T1 ⟨#[]⟩ ⟨#[]⟩ false 0 0 (.slice none 0 0)) 72)); replace HS := Lib.hid (HS.out.below hbn); replace HG := Lib.hid (Gw.refl W0.heap.size (w9.alloc (.cells (simC 3 T1 ⟨#[]⟩ ⟨#[]⟩ false 0 0 (.slice none 0 0)) 72))); clear hbn))
  generalize w9.alloc (.cells _ 72) = W2 at *
  generalize w9.heap.size = gx at *
  have hgx := HGX.out
  go_upto_region 11 with (first | (go_at_call 37; (first | refine (HW2.out _ _ HS.out).mono ?_); rintro e w9 ⟨⟨c, rfl⟩, hs⟩; replace HG := Lib.hid (HG.out.trans hs.gw); replace HS := Lib.hid (HS.out.since hs); clear hs) | (go_at_call 40; (first | refine (HE3.out _ _ HS.out).mono ?_); rintro e w9 ⟨rfl, hb⟩; replace HG := Lib.hid (HG.out.belowS hb); replace HS := Lib.hid (HS.out.below hb); clear hb) | (go_at_call 87; refine (HO3.out _ _ HS.out).mono ?_; rintro e w9 ⟨rfl, hs⟩; replace HG := Lib.hid (HG.out.trans hs.gw); replace HS := Lib.hid (HS.out.since hs); clear hs; have x2 : w9.cell? ⟨gx, 2, none⟩ = some (.string ⟨#[]⟩) := (HX.out.gw HG.out (show gx ≠ W0.heap.size by have := HGX.out; have := HW01.out; have := HSZ0.out; omega)).cell 2; have y2 : w9.frozen? ⟨gx, 2, none⟩ = false := (HX.out.gw HG.out (show gx ≠ W0.heap.size by have := HGX.out; have := HW01.out; have := HSZ0.out; omega)).frozen 2; have HXN := Lib.hid (show CB 72 (w9.setCell ⟨gx, 2, none⟩ (.string O)) gx (simC 3 T1 O ⟨#[]⟩ false 0 0 (.slice none 0 0)) from CB.simOp (HX.out.gw HG.out (show gx ≠ W0.heap.size by have := HGX.out; have := HW01.out; have := HSZ0.out; omega)) _); have HZN := Lib.hid ((HZ.out.gw HG.out HNE.out).far (p := ⟨gx, 2, none⟩) (show w.heap.size ≠ gx by have := HGX.out; have := HW01.out; have := HSZ0.out; omega) (.string O)); have HSN := Lib.hid (HS.out.far (p := ⟨gx, 2, none⟩) HGX.out (.string O)); have HBN := Lib.hid ((HG.out.toBelow HB.out HLE.out (Nat.le_refl _)).setCell (p := ⟨gx, 2, none⟩) (show w.heap.size ≤ gx by have := HGX.out; have := HW01.out; have := HSZ0.out; omega) (.string O)); have HGN := Lib.hid (Gw.refl W0.heap.size (w9.setCell ⟨gx, 2, none⟩ (.string O))); clear HX HZ HS HB HG; have HX := HXN; have HZ := HZN; have HS := HSN; have HB := HBN; have HG := HGN; clear HXN HZN HSN HBN HGN))
  clear x2 y2
  generalize World.setCell _ _ _ = W3 at *
  go_wp2_with (first | (have hbb := HS.out; refine wpList_store_mid (by rfl) 72 (.tmp 2) (.tmp 32) (by rfl) w.heap.size 0 simZ (by rfl) (by rfl) (cbW_there (HZ.out.gw HG.out HNE.out) (n := 8) rfl) sim_size simZ_one ?_; have HFF := Lib.hid (show CB 72 _ w.heap.size simZ from CB.sim (HZ.out.gw HG.out HNE.out)); have HBF := Lib.hid (setsW_below (Nat.le_refl _) simZ.toList 0 _ (HG.out.toBelow HB.out HLE.out (Nat.le_refl _))); generalize World.setCells _ w.heap.size 0 _ = W9 at *))
  exact bodyPost_ret (v := .tuple #[.agg simZ, .bool false]) (results_cellT (by rfl) _ _ w.heap.size _ _ _ _ _ (by rfl) (by rfl) HFF.out Tryz.underlying72 (by rfl) sim_size) rfl ⟨simPost_no _ _ _ _ _ _ _ _ _ _ _, HBF.out⟩
theorem sattr_D {P : Nat → Prop} {w : World} {v : Value} {l r1 : List Nd} {T1 : ByteArray} {ok1 : Bool} {r2 r3 : List Nd} {e3 : Bool} {O : ByteArray} {ok2 : Bool} {r4 r5 : List Nd} {K5 : Int} {V : ByteArray} {r6 r7 : List Nd} {e7 : Bool} {T7 : ByteArray} {ok7 : Bool} {r8 : List Nd} {e8 : Bool} (A : AttrSt l r1 T1 ok1 r2 r3 e3 O ok2 r4 r5 K5 V r6 r7 e7 T7 ok7 r8 e8) (h : RdN w P v l) (hl : szL l ≤ 100000000) (hx : txD l) (q1 : ok1 = true) (q3 : e3 = false) (q4 : ok2 = true) (n1 : (K5 == 1) = false) (n5 : (K5 == 5) = false) :
    Calls Tryz.prog 80 #[v] w fun e w' => SimPost (fun g => w.heap.size ≤ g) none e w' ∧ Below w.heap.size w w' := by
  subst q1 q3 q4
  have m1 : (K5 != 1) = true := by rw [bne, n1]; rfl
  have m5 : (K5 != 5) = true := by rw [bne, n5]; rfl
  obtain ⟨HB, HZ, HG, hsz0, hszw, hsz1⟩ := attr_pre w v
  have HS0 := SR.start (h.under ((Below.refl w.heap.size w).alloc (Nat.le_refl _) (.cells simZ 72)) (Nat.le_refl _)) hl 0
  obtain ⟨a, vc, rfl, _⟩ := h.shape
  generalize (fun k => P k ∧ k < (w.alloc (.cells simZ 72)).heap.size) = Q at HS0
  have HS := Lib.hid HS0
  clear HS0 h
  obtain ⟨h1, h2, h3, h3e, h4, h4q, h5, h5k, h5v, h6, h7, h7e, h8, h8e⟩ := A
  generalize hgb : (w.alloc (.cells simZ 72)).heap.size = gb at *
  have HW0 := Lib.hid (aW (Q := Q) (gb := gb) (v := .slice a l.length vc) (l := l) h1)
  have HW2 := Lib.hid (aW (Q := Q) (gb := gb) (v := .slice a l.length vc) (l := l) h3)
  have HW4 := Lib.hid (aW (Q := Q) (gb := gb) (v := .slice a l.length vc) (l := l) h5)
  have HL1 := Lib.hid (aL (Q := Q) (gb := gb) (v := .slice a l.length vc) hx h2)
  have HE3 := Lib.hid (aE (Q := Q) (gb := gb) (v := .slice a l.length vc) (l := l) h3e)
  have HO3 := Lib.hid (aO (Q := Q) (gb := gb) (v := .slice a l.length vc) hx h4 h4q)
  have HK5 := Lib.hid (fun (W W' : World) (hs : SR Q W' gb (.slice a l.length vc) l 0 r5 W) => (kind_0 hs).mono (R' := fun e w' => e = .returned (.int .i64 K5) ∧ Below W.heap.size W w') (fun e w' ⟨h1', h2'⟩ => ⟨by rw [h5k] at h1'; exact h1', h2'⟩))
  clear h1 h2 h3 h3e h4 h4q h5 h5k h5v h6 h7 h7e h8 h8e hl hx
  have HSZ0 := Lib.hid hsz0
  have HW01 := Lib.hid hsz1
  have HSZW := Lib.hid hszw
  have HNE : Hid (w.heap.size ≠ gb) := by show _ ≠ _; omega
  have HLE : Hid (w.heap.size ≤ gb) := by show _ ≤ _; omega
  clear hsz0 hsz1 hszw
  subst hgb
  generalize l.length = NN at *
  go_enter Tryz.func80, Tryz.ntmps80
  go_upto_region 1 with fail
  generalize w.alloc (.cells simZ 72) = W0 at *
  go_upto_region 2 with fail
  generalize W0.alloc (.cells _ 90) = W1 at *
  go_upto_region 7 with (first | (go_at_call 37; (first | refine (HW0.out _ _ HS.out).mono ?_); rintro e w9 ⟨⟨c, rfl⟩, hs⟩; replace HG := Lib.hid (HG.out.trans hs.gw); replace HS := Lib.hid (HS.out.since hs); clear hs) | (go_at_call 77; (first | refine (HL1.out _ _ HS.out).mono ?_); rintro e w9 ⟨rfl, hs⟩; replace HG := Lib.hid (HG.out.trans hs.gw); replace HS := Lib.hid (HS.out.since hs); clear hs; have hbn := (Below.refl w9.heap.size w9).alloc (Nat.le_refl _) (.cells (simC 3 T1 ⟨#[]⟩ ⟨#[]⟩ false 0 0 (.slice none 0 0)) 72); have HX := Lib.hid (CB.new (T := 72) w9 (simC 3 T1 ⟨#[]⟩ ⟨#[]⟩ false 0 0 (.slice none 0 0))); have HGX := Lib.hid (show W1.heap.size ≤ w9.heap.size from HG.out.size); replace HZ := Lib.hid ((HZ.out.gw HG.out HNE.out).alloc (.cells (simC 3 T1 ⟨#[]⟩ ⟨#[]⟩ false 0 0 (.slice none 0 0)) 72)); replace HB := Lib.hid ((HG.out.toBelow HB.out HLE.out (Nat.le_refl _)).alloc (Nat.le_trans HSZW.out HG.out.size) (.cells (simC 3 T1 ⟨#[]⟩ ⟨#[]⟩ false 0 0 (.slice none 0 0)) 72)); replace HS := Lib.hid (HS.out.below hbn); replace HG := Lib.hid (Gw.refl W0.heap.size (w9.alloc (.cells (simC 3 T1 ⟨#[]⟩ ⟨#[]⟩ false 0 0 (.slice none 0 0)) 72))); clear hbn))
  generalize w9.alloc (.cells _ 72) = W2 at *
  generalize w9.heap.size = gx at *
  have hgx := HGX.out
  go_upto_region 11 with (first | (go_at_call 37; (first | refine (HW2.out _ _ HS.out).mono ?_); rintro e w9 ⟨⟨c, rfl⟩, hs⟩; replace HG := Lib.hid (HG.out.trans hs.gw); replace HS := Lib.hid (HS.out.since hs); clear hs) | (go_at_call 40; (first | refine (HE3.out _ _ HS.out).mono ?_); rintro e w9 ⟨rfl, hb⟩; replace HG := Lib.hid (HG.out.belowS hb); replace HS := Lib.hid (HS.out.below hb); clear hb) | (go_at_call 87; refine (HO3.out _ _ HS.out).mono ?_; rintro e w9 ⟨rfl, hs⟩; replace HG := Lib.hid (HG.out.trans hs.gw); replace HS := Lib.hid (HS.out.since hs); clear hs; have x2 : w9.cell? ⟨gx, 2, none⟩ = some (.string ⟨#[]⟩) := (HX.out.gw HG.out (show gx ≠ W0.heap.size by have := HGX.out; have := HW01.out; have := HSZ0.out; omega)).cell 2; have y2 : w9.frozen? ⟨gx, 2, none⟩ = false := (HX.out.gw HG.out (show gx ≠ W0.heap.size by have := HGX.out; have := HW01.out; have := HSZ0.out; omega)).frozen 2; have HXN := Lib.hid (show CB 72 (w9.setCell ⟨gx, 2, none⟩ (.string O)) gx (simC 3 T1 O ⟨#[]⟩ false 0 0 (.slice none 0 0)) from CB.simOp (HX.out.gw HG.out (show gx ≠ W0.heap.size by have := HGX.out; have := HW01.out; have := HSZ0.out; omega)) _); have HZN := Lib.hid ((HZ.out.gw HG.out HNE.out).far (p := ⟨gx, 2, none⟩) (show w.heap.size ≠ gx by have := HGX.out; have := HW01.out; have := HSZ0.out; omega) (.string O)); have HSN := Lib.hid (HS.out.far (p := ⟨gx, 2, none⟩) HGX.out (.string O)); have HBN := Lib.hid ((HG.out.toBelow HB.out HLE.out (Nat.le_refl _)).setCell (p := ⟨gx, 2, none⟩) (show w.heap.size ≤ gx by have := HGX.out; have := HW01.out; have := HSZ0.out; omega) (.string O)); have HGN := Lib.hid (Gw.refl W0.heap.size (w9.setCell ⟨gx, 2, none⟩ (.string O))); clear HX HZ HS HB HG; have HX := HXN; have HZ := HZN; have HS := HSN; have HB := HBN; have HG := HGN; clear HXN HZN HSN HBN HGN))
  clear x2 y2
  generalize World.setCell _ _ _ = W3 at *
  go_wp2_with (first | (have hbb := HS.out; refine wpList_store_mid (by rfl) 72 (.tmp 2) (.tmp 40) (by rfl) w.heap.size 0 simZ (by rfl) (by rfl) (cbW_there (HZ.out.gw HG.out HNE.out) (n := 8) rfl) sim_size simZ_one ?_; have HFF := Lib.hid (show CB 72 _ w.heap.size simZ from CB.sim (HZ.out.gw HG.out HNE.out)); have HBF := Lib.hid (setsW_below (Nat.le_refl _) simZ.toList 0 _ (HG.out.toBelow HB.out HLE.out (Nat.le_refl _))); generalize World.setCells _ w.heap.size 0 _ = W9 at *) | (go_at_call 37; (first | refine (HW4.out _ _ HS.out).mono ?_); rintro e w9 ⟨⟨c, rfl⟩, hs⟩; replace HG := Lib.hid (HG.out.trans hs.gw); replace HS := Lib.hid (HS.out.since hs); clear hs) | (go_at_call 60; refine (HK5.out _ _ HS.out).mono ?_; rintro e w9 ⟨rfl, hb⟩; replace HG := Lib.hid (HG.out.belowS hb); replace HS := Lib.hid (HS.out.below hb); clear hb))
  exact bodyPost_ret (v := .tuple #[.agg simZ, .bool false]) (results_cellT (by rfl) _ _ w.heap.size _ _ _ _ _ (by rfl) (by rfl) HFF.out Tryz.underlying72 (by rfl) sim_size) rfl ⟨simPost_no _ _ _ _ _ _ _ _ _ _ _, HBF.out⟩
theorem sattr_E1 {P : Nat → Prop} {w : World} {v : Value} {l r1 : List Nd} {T1 : ByteArray} {ok1 : Bool} {r2 r3 : List Nd} {e3 : Bool} {O : ByteArray} {ok2 : Bool} {r4 r5 : List Nd} {K5 : Int} {V : ByteArray} {r6 r7 : List Nd} {e7 : Bool} {T7 : ByteArray} {ok7 : Bool} {r8 : List Nd} {e8 : Bool} (A : AttrSt l r1 T1 ok1 r2 r3 e3 O ok2 r4 r5 K5 V r6 r7 e7 T7 ok7 r8 e8) (h : RdN w P v l) (hl : szL l ≤ 100000000) (hx : txD l) (q1 : ok1 = true) (q3 : e3 = false) (q4 : ok2 = true) (q5 : K5 = 1) (q7 : e7 = true) :
    Calls Tryz.prog 80 #[v] w fun e w' => SimPost (fun g => w.heap.size ≤ g) (some (.mk 3 T1 O V false 0 0 [])) e w' ∧ Below w.heap.size w w' := by
  subst q1 q3 q4 q5
  subst q7
  obtain ⟨HB, HZ, HG, hsz0, hszw, hsz1⟩ := attr_pre w v
  have HS0 := SR.start (h.under ((Below.refl w.heap.size w).alloc (Nat.le_refl _) (.cells simZ 72)) (Nat.le_refl _)) hl 0
  obtain ⟨a, vc, rfl, _⟩ := h.shape
  generalize (fun k => P k ∧ k < (w.alloc (.cells simZ 72)).heap.size) = Q at HS0
  have HS := Lib.hid HS0
  clear HS0 h
  obtain ⟨h1, h2, h3, h3e, h4, h4q, h5, h5k, h5v, h6, h7, h7e, h8, h8e⟩ := A
  generalize hgb : (w.alloc (.cells simZ 72)).heap.size = gb at *
  have HW0 := Lib.hid (aW (Q := Q) (gb := gb) (v := .slice a l.length vc) (l := l) h1)
  have HW2 := Lib.hid (aW (Q := Q) (gb := gb) (v := .slice a l.length vc) (l := l) h3)
  have HW4 := Lib.hid (aW (Q := Q) (gb := gb) (v := .slice a l.length vc) (l := l) h5)
  have HW6 := Lib.hid (aW (Q := Q) (gb := gb) (v := .slice a l.length vc) (l := l) h7)
  have HL1 := Lib.hid (aL (Q := Q) (gb := gb) (v := .slice a l.length vc) hx h2)
  have HE3 := Lib.hid (aE (Q := Q) (gb := gb) (v := .slice a l.length vc) (l := l) h3e)
  have HE7 := Lib.hid (aE (Q := Q) (gb := gb) (v := .slice a l.length vc) (l := l) h7e)
  have HO3 := Lib.hid (aO (Q := Q) (gb := gb) (v := .slice a l.length vc) hx h4 h4q)
  have HK5 := Lib.hid (fun (W W' : World) (hs : SR Q W' gb (.slice a l.length vc) l 0 r5 W) => (kind_0 hs).mono (R' := fun e w' => e = .returned (.int .i64 1) ∧ Below W.heap.size W w') (fun e w' ⟨h1', h2'⟩ => ⟨by rw [h5k] at h1'; exact h1', h2'⟩))
  have hr5 : 0 < r5.length := kind_pos h5k (by omega)
  have HT5 := Lib.hid (aT (Q := Q) (gb := gb) (v := .slice a l.length vc) (l := l) hr5 h6)
  generalize hnd : atK r5 0 = nd at *
  obtain ⟨t, k⟩ := nd
  replace h5v : t.text = V := h5v
  have hf1 := fld_tok t
  have hf2 := fld_text t
  rw [h5v] at hf1 hf2
  clear hnd
  clear h1 h2 h3 h3e h4 h4q h5 h5k h5v h6 h7 h7e h8 h8e hl hx
  have HSZ0 := Lib.hid hsz0
  have HW01 := Lib.hid hsz1
  have HSZW := Lib.hid hszw
  have HNE : Hid (w.heap.size ≠ gb) := by show _ ≠ _; omega
  have HLE : Hid (w.heap.size ≤ gb) := by show _ ≤ _; omega
  clear hsz0 hsz1 hszw
  subst hgb
  generalize l.length = NN at *
  go_enter Tryz.func80, Tryz.ntmps80
  go_upto_region 1 with fail
  generalize w.alloc (.cells simZ 72) = W0 at *
  go_upto_region 2 with fail
  generalize W0.alloc (.cells _ 90) = W1 at *
  go_upto_region 7 with (first | (go_at_call 37; (first | refine (HW0.out _ _ HS.out).mono ?_); rintro e w9 ⟨⟨c, rfl⟩, hs⟩; replace HG := Lib.hid (HG.out.trans hs.gw); replace HS := Lib.hid (HS.out.since hs); clear hs) | (go_at_call 77; (first | refine (HL1.out _ _ HS.out).mono ?_); rintro e w9 ⟨rfl, hs⟩; replace HG := Lib.hid (HG.out.trans hs.gw); replace HS := Lib.hid (HS.out.since hs); clear hs; have hbn := (Below.refl w9.heap.size w9).alloc (Nat.le_refl _) (.cells (simC 3 T1 ⟨#[]⟩ ⟨#[]⟩ false 0 0 (.slice none 0 0)) 72); have HX := Lib.hid (CB.new (T := 72) w9 (simC 3 T1 ⟨#[]⟩ ⟨#[]⟩ false 0 0 (.slice none 0 0))); have HGX := Lib.hid (show W1.heap.size ≤ w9.heap.size from HG.out.size); replace HZ := Lib.hid ((HZ.out.gw HG.out HNE.out).alloc (.cells (simC 3 T1 ⟨#[]⟩ ⟨#[]⟩ false 0 0 (.slice none 0 0)) 72)); replace HB := Lib.hid ((HG.out.toBelow HB.out HLE.out (Nat.le_refl _)).alloc (Nat.le_trans HSZW.out HG.out.size) (.cells (simC 3 T1 ⟨#[]⟩ ⟨#[]⟩ false 0 0 (.slice none 0 0)) 72)); replace HS := Lib.hid (HS.out.below hbn); replace HG := Lib.hid (Gw.refl W0.heap.size (w9.alloc (.cells (simC 3 T1 ⟨#[]⟩ ⟨#[]⟩ false 0 0 (.slice none 0 0)) 72))); clear hbn))
  generalize w9.alloc (.cells _ 72) = W2 at *
  generalize w9.heap.size = gx at *
  have hgx := HGX.out
  go_upto_region 11 with (first | (go_at_call 37; (first | refine (HW2.out _ _ HS.out).mono ?_); rintro e w9 ⟨⟨c, rfl⟩, hs⟩; replace HG := Lib.hid (HG.out.trans hs.gw); replace HS := Lib.hid (HS.out.since hs); clear hs) | (go_at_call 40; (first | refine (HE3.out _ _ HS.out).mono ?_); rintro e w9 ⟨rfl, hb⟩; replace HG := Lib.hid (HG.out.belowS hb); replace HS := Lib.hid (HS.out.below hb); clear hb) | (go_at_call 87; refine (HO3.out _ _ HS.out).mono ?_; rintro e w9 ⟨rfl, hs⟩; replace HG := Lib.hid (HG.out.trans hs.gw); replace HS := Lib.hid (HS.out.since hs); clear hs; have x2 : w9.cell? ⟨gx, 2, none⟩ = some (.string ⟨#[]⟩) := (HX.out.gw HG.out (show gx ≠ W0.heap.size by have := HGX.out; have := HW01.out; have := HSZ0.out; omega)).cell 2; have y2 : w9.frozen? ⟨gx, 2, none⟩ = false := (HX.out.gw HG.out (show gx ≠ W0.heap.size by have := HGX.out; have := HW01.out; have := HSZ0.out; omega)).frozen 2; have HXN := Lib.hid (show CB 72 (w9.setCell ⟨gx, 2, none⟩ (.string O)) gx (simC 3 T1 O ⟨#[]⟩ false 0 0 (.slice none 0 0)) from CB.simOp (HX.out.gw HG.out (show gx ≠ W0.heap.size by have := HGX.out; have := HW01.out; have := HSZ0.out; omega)) _); have HZN := Lib.hid ((HZ.out.gw HG.out HNE.out).far (p := ⟨gx, 2, none⟩) (show w.heap.size ≠ gx by have := HGX.out; have := HW01.out; have := HSZ0.out; omega) (.string O)); have HSN := Lib.hid (HS.out.far (p := ⟨gx, 2, none⟩) HGX.out (.string O)); have HBN := Lib.hid ((HG.out.toBelow HB.out HLE.out (Nat.le_refl _)).setCell (p := ⟨gx, 2, none⟩) (show w.heap.size ≤ gx by have := HGX.out; have := HW01.out; have := HSZ0.out; omega) (.string O)); have HGN := Lib.hid (Gw.refl W0.heap.size (w9.setCell ⟨gx, 2, none⟩ (.string O))); clear HX HZ HS HB HG; have HX := HXN; have HZ := HZN; have HS := HSN; have HB := HBN; have HG := HGN; clear HXN HZN HSN HBN HGN))
  clear x2 y2
  generalize World.setCell _ _ _ = W3 at *
  go_upto_region 17 with (first | (go_at_call 37; (first | refine (HW4.out _ _ HS.out).mono ?_); rintro e w9 ⟨⟨c, rfl⟩, hs⟩; replace HG := Lib.hid (HG.out.trans hs.gw); replace HS := Lib.hid (HS.out.since hs); clear hs) | (go_at_call 60; refine (HK5.out _ _ HS.out).mono ?_; rintro e w9 ⟨rfl, hb⟩; replace HG := Lib.hid (HG.out.belowS hb); replace HS := Lib.hid (HS.out.below hb); clear hb) | (go_at_call 78; refine (HT5.out _ _ HS.out).mono ?_; rintro e w9 ⟨⟨u, rfl, hu⟩, hs⟩; simp only [Nd.tok] at *; replace HG := Lib.hid (HG.out.trans hs.gw); replace HS := Lib.hid (HS.out.since hs); clear hs hu; have x3 : w9.cell? ⟨gx, 3, none⟩ = some (.string ⟨#[]⟩) := (HX.out.gw HG.out (show gx ≠ W0.heap.size by have := HGX.out; have := HW01.out; have := HSZ0.out; omega)).cell 3; have y3 : w9.frozen? ⟨gx, 3, none⟩ = false := (HX.out.gw HG.out (show gx ≠ W0.heap.size by have := HGX.out; have := HW01.out; have := HSZ0.out; omega)).frozen 3; have HXN := Lib.hid (show CB 72 (w9.setCell ⟨gx, 3, none⟩ (.string V)) gx (simC 3 T1 O V false 0 0 (.slice none 0 0)) from CB.simVal (HX.out.gw HG.out (show gx ≠ W0.heap.size by have := HGX.out; have := HW01.out; have := HSZ0.out; omega)) _); have HZN := Lib.hid ((HZ.out.gw HG.out HNE.out).far (p := ⟨gx, 3, none⟩) (show w.heap.size ≠ gx by have := HGX.out; have := HW01.out; have := HSZ0.out; omega) (.string V)); have HSN := Lib.hid (HS.out.far (p := ⟨gx, 3, none⟩) HGX.out (.string V)); have HBN := Lib.hid ((HG.out.toBelow HB.out HLE.out (Nat.le_refl _)).setCell (p := ⟨gx, 3, none⟩) (show w.heap.size ≤ gx by have := HGX.out; have := HW01.out; have := HSZ0.out; omega) (.string V)); have HGN := Lib.hid (Gw.refl W0.heap.size (w9.setCell ⟨gx, 3, none⟩ (.string V))); clear HX HZ HS HB HG; have HX := HXN; have HZ := HZN; have HS := HSN; have HB := HBN; have HG := HGN; clear HXN HZN HSN HBN HGN))
  clear x3 y3
  generalize World.setCell _ _ _ = W4 at *
  go_wp2_with (first | (have hbb := HS.out; refine wpList_store_mid (by rfl) 72 (.tmp 2) (.tmp 47) (by rfl) w.heap.size 0 (simC 3 T1 O V false 0 0 (.slice none 0 0)) (by rfl) (by rfl) (cbW_there (HZ.out.gw HG.out HNE.out) (n := 8) rfl) sim_size (sim_one _ _ _ _ _ _ _ _ _ _) ?_; have HFF := Lib.hid (show CB 72 _ w.heap.size (simC 3 T1 O V false 0 0 (.slice none 0 0)) from CB.sim (HZ.out.gw HG.out HNE.out)); have HBF := Lib.hid (setsW_below (Nat.le_refl _) (simC 3 T1 O V false 0 0 (.slice none 0 0)).toList 0 _ (HG.out.toBelow HB.out HLE.out (Nat.le_refl _))); generalize World.setCells _ w.heap.size 0 _ = W9 at *) | (go_at_call 37; (first | refine (HW6.out _ _ HS.out).mono ?_); rintro e w9 ⟨⟨c, rfl⟩, hs⟩; replace HG := Lib.hid (HG.out.trans hs.gw); replace HS := Lib.hid (HS.out.since hs); clear hs) | (go_at_call 40; (first | refine (HE7.out _ _ HS.out).mono ?_); rintro e w9 ⟨rfl, hb⟩; replace HG := Lib.hid (HG.out.belowS hb); replace HS := Lib.hid (HS.out.below hb); clear hb; have x0 : w9.cell? ⟨gx, 0, none⟩ = some (.int .i64 3) := (HX.out.gw HG.out (show gx ≠ W0.heap.size by have := HGX.out; have := HW01.out; have := HSZ0.out; omega)).cell 0; have x1 : w9.cell? ⟨gx, 1, none⟩ = some (.string T1) := (HX.out.gw HG.out (show gx ≠ W0.heap.size by have := HGX.out; have := HW01.out; have := HSZ0.out; omega)).cell 1; have x2 : w9.cell? ⟨gx, 2, none⟩ = some (.string O) := (HX.out.gw HG.out (show gx ≠ W0.heap.size by have := HGX.out; have := HW01.out; have := HSZ0.out; omega)).cell 2; have x3 : w9.cell? ⟨gx, 3, none⟩ = some (.string V) := (HX.out.gw HG.out (show gx ≠ W0.heap.size by have := HGX.out; have := HW01.out; have := HSZ0.out; omega)).cell 3; have x4 : w9.cell? ⟨gx, 4, none⟩ = some (.bool false) := (HX.out.gw HG.out (show gx ≠ W0.heap.size by have := HGX.out; have := HW01.out; have := HSZ0.out; omega)).cell 4; have x5 : w9.cell? ⟨gx, 5, none⟩ = some (.int .i64 0) := (HX.out.gw HG.out (show gx ≠ W0.heap.size by have := HGX.out; have := HW01.out; have := HSZ0.out; omega)).cell 5; have x6 : w9.cell? ⟨gx, 6, none⟩ = some (.int .i64 0) := (HX.out.gw HG.out (show gx ≠ W0.heap.size by have := HGX.out; have := HW01.out; have := HSZ0.out; omega)).cell 6; have x7 : w9.cell? ⟨gx, 7, none⟩ = some (.slice none 0 0) := (HX.out.gw HG.out (show gx ≠ W0.heap.size by have := HGX.out; have := HW01.out; have := HSZ0.out; omega)).cell 7))
  exact bodyPost_ret (v := .tuple #[.agg (simC 3 T1 O V false 0 0 (.slice none 0 0)), .bool true]) (results_cellT (by rfl) _ _ w.heap.size _ _ _ _ _ (by rfl) (by rfl) HFF.out Tryz.underlying72 (by rfl) sim_size) rfl ⟨simPost_yes _ _ _ _ _ _ _ _ _ _ _, HBF.out⟩
theorem sattr_F1 {P : Nat → Prop} {w : World} {v : Value} {l r1 : List Nd} {T1 : ByteArray} {ok1 : Bool} {r2 r3 : List Nd} {e3 : Bool} {O : ByteArray} {ok2 : Bool} {r4 r5 : List Nd} {K5 : Int} {V : ByteArray} {r6 r7 : List Nd} {e7 : Bool} {T7 : ByteArray} {ok7 : Bool} {r8 : List Nd} {e8 : Bool} (A : AttrSt l r1 T1 ok1 r2 r3 e3 O ok2 r4 r5 K5 V r6 r7 e7 T7 ok7 r8 e8) (h : RdN w P v l) (hl : szL l ≤ 100000000) (hx : txD l) (q1 : ok1 = true) (q3 : e3 = false) (q4 : ok2 = true) (q5 : K5 = 1) (q7 : e7 = false) (q8 : (T7.toList == [105]) = false) :
    Calls Tryz.prog 80 #[v] w fun e w' => SimPost (fun g => w.heap.size ≤ g) none e w' ∧ Below w.heap.size w w' := by
  subst q1 q3 q4 q5
  subst q7
  obtain ⟨HB, HZ, HG, hsz0, hszw, hsz1⟩ := attr_pre w v
  have HS0 := SR.start (h.under ((Below.refl w.heap.size w).alloc (Nat.le_refl _) (.cells simZ 72)) (Nat.le_refl _)) hl 0
  obtain ⟨a, vc, rfl, _⟩ := h.shape
  generalize (fun k => P k ∧ k < (w.alloc (.cells simZ 72)).heap.size) = Q at HS0
  have HS := Lib.hid HS0
  clear HS0 h
  obtain ⟨h1, h2, h3, h3e, h4, h4q, h5, h5k, h5v, h6, h7, h7e, h8, h8e⟩ := A
  generalize hgb : (w.alloc (.cells simZ 72)).heap.size = gb at *
  have HW0 := Lib.hid (aW (Q := Q) (gb := gb) (v := .slice a l.length vc) (l := l) h1)
  have HW2 := Lib.hid (aW (Q := Q) (gb := gb) (v := .slice a l.length vc) (l := l) h3)
  have HW4 := Lib.hid (aW (Q := Q) (gb := gb) (v := .slice a l.length vc) (l := l) h5)
  have HW6 := Lib.hid (aW (Q := Q) (gb := gb) (v := .slice a l.length vc) (l := l) h7)
  have HL1 := Lib.hid (aL (Q := Q) (gb := gb) (v := .slice a l.length vc) hx h2)
  have HL7 := Lib.hid (aL (Q := Q) (gb := gb) (v := .slice a l.length vc) hx h8)
  have HE3 := Lib.hid (aE (Q := Q) (gb := gb) (v := .slice a l.length vc) (l := l) h3e)
  have HE7 := Lib.hid (aE (Q := Q) (gb := gb) (v := .slice a l.length vc) (l := l) h7e)
  have HO3 := Lib.hid (aO (Q := Q) (gb := gb) (v := .slice a l.length vc) hx h4 h4q)
  have HK5 := Lib.hid (fun (W W' : World) (hs : SR Q W' gb (.slice a l.length vc) l 0 r5 W) => (kind_0 hs).mono (R' := fun e w' => e = .returned (.int .i64 1) ∧ Below W.heap.size W w') (fun e w' ⟨h1', h2'⟩ => ⟨by rw [h5k] at h1'; exact h1', h2'⟩))
  have hr5 : 0 < r5.length := kind_pos h5k (by omega)
  have HT5 := Lib.hid (aT (Q := Q) (gb := gb) (v := .slice a l.length vc) (l := l) hr5 h6)
  generalize hnd : atK r5 0 = nd at *
  obtain ⟨t, k⟩ := nd
  replace h5v : t.text = V := h5v
  have hf1 := fld_tok t
  have hf2 := fld_text t
  rw [h5v] at hf1 hf2
  clear hnd
  clear h1 h2 h3 h3e h4 h4q h5 h5k h5v h6 h7 h7e h8 h8e hl hx
  have HSZ0 := Lib.hid hsz0
  have HW01 := Lib.hid hsz1
  have HSZW := Lib.hid hszw
  have HNE : Hid (w.heap.size ≠ gb) := by show _ ≠ _; omega
  have HLE : Hid (w.heap.size ≤ gb) := by show _ ≤ _; omega
  clear hsz0 hsz1 hszw
  subst hgb
  generalize l.length = NN at *
  go_enter Tryz.func80, Tryz.ntmps80
  go_upto_region 1 with fail
  generalize w.alloc (.cells simZ 72) = W0 at *
  go_upto_region 2 with fail
  generalize W0.alloc (.cells _ 90) = W1 at *
  go_upto_region 7 with (first | (go_at_call 37; (first | refine (HW0.out _ _ HS.out).mono ?_); rintro e w9 ⟨⟨c, rfl⟩, hs⟩; replace HG := Lib.hid (HG.out.trans hs.gw); replace HS := Lib.hid (HS.out.since hs); clear hs) | (go_at_call 77; (first | refine (HL1.out _ _ HS.out).mono ?_); rintro e w9 ⟨rfl, hs⟩; replace HG := Lib.hid (HG.out.trans hs.gw); replace HS := Lib.hid (HS.out.since hs); clear hs; have hbn := (Below.refl w9.heap.size w9).alloc (Nat.le_refl _) (.cells (simC 3 T1 ⟨#[]⟩ ⟨#[]⟩ false 0 0 (.slice none 0 0)) 72); have HX := Lib.hid (CB.new (T := 72) w9 (simC 3 T1 ⟨#[]⟩ ⟨#[]⟩ false 0 0 (.slice none 0 0))); have HGX := Lib.hid (show W1.heap.size ≤ w9.heap.size from HG.out.size); replace HZ := Lib.hid ((HZ.out.gw HG.out HNE.out).alloc (.cells (simC 3 T1 ⟨#[]⟩ ⟨#[]⟩ false 0 0 (.slice none 0 0)) 72)); replace HB := Lib.hid ((HG.out.toBelow HB.out HLE.out (Nat.le_refl _)).alloc (Nat.le_trans HSZW.out HG.out.size) (.cells (simC 3 T1 ⟨#[]⟩ ⟨#[]⟩ false 0 0 (.slice none 0 0)) 72)); replace HS := Lib.hid (HS.out.below hbn); replace HG := Lib.hid (Gw.refl W0.heap.size (w9.alloc (.cells (simC 3 T1 ⟨#[]⟩ ⟨#[]⟩ false 0 0 (.slice none 0 0)) 72))); clear hbn))
  generalize w9.alloc (.cells _ 72) = W2 at *
  generalize w9.heap.size = gx at *
  have hgx := HGX.out
  go_upto_region 11 with (first | (go_at_call 37; (first | refine (HW2.out _ _ HS.out).mono ?_); rintro e w9 ⟨⟨c, rfl⟩, hs⟩; replace HG := Lib.hid (HG.out.trans hs.gw); replace HS := Lib.hid (HS.out.since hs); clear hs) | (go_at_call 40; (first | refine (HE3.out _ _ HS.out).mono ?_); rintro e w9 ⟨rfl, hb⟩; replace HG := Lib.hid (HG.out.belowS hb); replace HS := Lib.hid (HS.out.below hb); clear hb) | (go_at_call 87; refine (HO3.out _ _ HS.out).mono ?_; rintro e w9 ⟨rfl, hs⟩; replace HG := Lib.hid (HG.out.trans hs.gw); replace HS := Lib.hid (HS.out.since hs); clear hs; have x2 : w9.cell? ⟨gx, 2, none⟩ = some (.string ⟨#[]⟩) := (HX.out.gw HG.out (show gx ≠ W0.heap.size by have := HGX.out; have := HW01.out; have := HSZ0.out; omega)).cell 2; have y2 : w9.frozen? ⟨gx, 2, none⟩ = false := (HX.out.gw HG.out (show gx ≠ W0.heap.size by have := HGX.out; have := HW01.out; have := HSZ0.out; omega)).frozen 2; have HXN := Lib.hid (show CB 72 (w9.setCell ⟨gx, 2, none⟩ (.string O)) gx (simC 3 T1 O ⟨#[]⟩ false 0 0 (.slice none 0 0)) from CB.simOp (HX.out.gw HG.out (show gx ≠ W0.heap.size by have := HGX.out; have := HW01.out; have := HSZ0.out; omega)) _); have HZN := Lib.hid ((HZ.out.gw HG.out HNE.out).far (p := ⟨gx, 2, none⟩) (show w.heap.size ≠ gx by have := HGX.out; have := HW01.out; have := HSZ0.out; omega) (.string O)); have HSN := Lib.hid (HS.out.far (p := ⟨gx, 2, none⟩) HGX.out (.string O)); have HBN := Lib.hid ((HG.out.toBelow HB.out HLE.out (Nat.le_refl _)).setCell (p := ⟨gx, 2, none⟩) (show w.heap.size ≤ gx by have := HGX.out; have := HW01.out; have := HSZ0.out; omega) (.string O)); have HGN := Lib.hid (Gw.refl W0.heap.size (w9.setCell ⟨gx, 2, none⟩ (.string O))); clear HX HZ HS HB HG; have HX := HXN; have HZ := HZN; have HS := HSN; have HB := HBN; have HG := HGN; clear HXN HZN HSN HBN HGN))
  clear x2 y2
  generalize World.setCell _ _ _ = W3 at *
  go_upto_region 17 with (first | (go_at_call 37; (first | refine (HW4.out _ _ HS.out).mono ?_); rintro e w9 ⟨⟨c, rfl⟩, hs⟩; replace HG := Lib.hid (HG.out.trans hs.gw); replace HS := Lib.hid (HS.out.since hs); clear hs) | (go_at_call 60; refine (HK5.out _ _ HS.out).mono ?_; rintro e w9 ⟨rfl, hb⟩; replace HG := Lib.hid (HG.out.belowS hb); replace HS := Lib.hid (HS.out.below hb); clear hb) | (go_at_call 78; refine (HT5.out _ _ HS.out).mono ?_; rintro e w9 ⟨⟨u, rfl, hu⟩, hs⟩; simp only [Nd.tok] at *; replace HG := Lib.hid (HG.out.trans hs.gw); replace HS := Lib.hid (HS.out.since hs); clear hs hu; have x3 : w9.cell? ⟨gx, 3, none⟩ = some (.string ⟨#[]⟩) := (HX.out.gw HG.out (show gx ≠ W0.heap.size by have := HGX.out; have := HW01.out; have := HSZ0.out; omega)).cell 3; have y3 : w9.frozen? ⟨gx, 3, none⟩ = false := (HX.out.gw HG.out (show gx ≠ W0.heap.size by have := HGX.out; have := HW01.out; have := HSZ0.out; omega)).frozen 3; have HXN := Lib.hid (show CB 72 (w9.setCell ⟨gx, 3, none⟩ (.string V)) gx (simC 3 T1 O V false 0 0 (.slice none 0 0)) from CB.simVal (HX.out.gw HG.out (show gx ≠ W0.heap.size by have := HGX.out; have := HW01.out; have := HSZ0.out; omega)) _); have HZN := Lib.hid ((HZ.out.gw HG.out HNE.out).far (p := ⟨gx, 3, none⟩) (show w.heap.size ≠ gx by have := HGX.out; have := HW01.out; have := HSZ0.out; omega) (.string V)); have HSN := Lib.hid (HS.out.far (p := ⟨gx, 3, none⟩) HGX.out (.string V)); have HBN := Lib.hid ((HG.out.toBelow HB.out HLE.out (Nat.le_refl _)).setCell (p := ⟨gx, 3, none⟩) (show w.heap.size ≤ gx by have := HGX.out; have := HW01.out; have := HSZ0.out; omega) (.string V)); have HGN := Lib.hid (Gw.refl W0.heap.size (w9.setCell ⟨gx, 3, none⟩ (.string V))); clear HX HZ HS HB HG; have HX := HXN; have HZ := HZN; have HS := HSN; have HB := HBN; have HG := HGN; clear HXN HZN HSN HBN HGN))
  clear x3 y3
  generalize World.setCell _ _ _ = W4 at *
  go_upto_region 22 with (first | (go_at_call 37; (first | refine (HW6.out _ _ HS.out).mono ?_); rintro e w9 ⟨⟨c, rfl⟩, hs⟩; replace HG := Lib.hid (HG.out.trans hs.gw); replace HS := Lib.hid (HS.out.since hs); clear hs) | (go_at_call 40; (first | refine (HE7.out _ _ HS.out).mono ?_); rintro e w9 ⟨rfl, hb⟩; replace HG := Lib.hid (HG.out.belowS hb); replace HS := Lib.hid (HS.out.below hb); clear hb) | (go_at_call 77; (first | refine (HL7.out _ _ HS.out).mono ?_); rintro e w9 ⟨rfl, hs⟩; replace HG := Lib.hid (HG.out.trans hs.gw); replace HS := Lib.hid (HS.out.since hs); clear hs; have x4 : w9.cell? ⟨gx, 4, none⟩ = some (.bool false) := (HX.out.gw HG.out (show gx ≠ W0.heap.size by have := HGX.out; have := HW01.out; have := HSZ0.out; omega)).cell 4; have y4 : w9.frozen? ⟨gx, 4, none⟩ = false := (HX.out.gw HG.out (show gx ≠ W0.heap.size by have := HGX.out; have := HW01.out; have := HSZ0.out; omega)).frozen 4; have HXN := Lib.hid (show CB 72 (w9.setCell ⟨gx, 4, none⟩ (.bool true)) gx (simC 3 T1 O V true 0 0 (.slice none 0 0)) from CB.simFold (HX.out.gw HG.out (show gx ≠ W0.heap.size by have := HGX.out; have := HW01.out; have := HSZ0.out; omega)) _); have HZN := Lib.hid ((HZ.out.gw HG.out HNE.out).far (p := ⟨gx, 4, none⟩) (show w.heap.size ≠ gx by have := HGX.out; have := HW01.out; have := HSZ0.out; omega) (.bool true)); have HSN := Lib.hid (HS.out.far (p := ⟨gx, 4, none⟩) HGX.out (.bool true)); have HBN := Lib.hid ((HG.out.toBelow HB.out HLE.out (Nat.le_refl _)).setCell (p := ⟨gx, 4, none⟩) (show w.heap.size ≤ gx by have := HGX.out; have := HW01.out; have := HSZ0.out; omega) (.bool true)); have HGN := Lib.hid (Gw.refl W0.heap.size (w9.setCell ⟨gx, 4, none⟩ (.bool true))); clear HX HZ HS HB HG; have HX := HXN; have HZ := HZN; have HS := HSN; have HB := HBN; have HG := HGN; clear HXN HZN HSN HBN HGN))
  clear x4 y4
  generalize World.setCell _ _ _ = W5 at *
  have HZD := Lib.hid (show CB 72 W5.drew w.heap.size simZ from HZ.out)
  have HSD := Lib.hid HS.out.drew
  have HBD := Lib.hid HB.out.drew
  have hne1 : gx ≠ w.heap.size := by have := HGX.out; have := HW01.out; have := HSZ0.out; omega
  refine wp_region_held_drew (S := fun W => CB 72 W gx (simC 3 T1 O V true 0 0 (.slice none 0 0))) (by kernel_rfl) (show CB 72 W5.drew gx (simC 3 T1 O V true 0 0 (.slice none 0 0)) from HX.out) (fun hHeld => ?_)
  generalize W5.drew = W6 at *
  refine wTake 0 (v := ?_) rfl (Or.inl ⟨by rfl, ?_⟩) ?_
  rotate_left
  · intro W hSw
    have x0 : W.cell? ⟨gx, 0, none⟩ = some (.int .i64 3) := hSw.cell 0
    have x1 : W.cell? ⟨gx, 1, none⟩ = some (.string T1) := hSw.cell 1
    have x2 : W.cell? ⟨gx, 2, none⟩ = some (.string O) := hSw.cell 2
    have x3 : W.cell? ⟨gx, 3, none⟩ = some (.string V) := hSw.cell 3
    have x4 : W.cell? ⟨gx, 4, none⟩ = some (.bool true) := hSw.cell 4
    have x5 : W.cell? ⟨gx, 5, none⟩ = some (.int .i64 0) := hSw.cell 5
    have x6 : W.cell? ⟨gx, 6, none⟩ = some (.int .i64 0) := hSw.cell 6
    have x7 : W.cell? ⟨gx, 7, none⟩ = some (.slice none 0 0) := hSw.cell 7
    go_simp
    all_goals with_reducible rfl
  try simp only [gA, gB, gC, gD, gE, gF, gG]
  refine wTake 1 (v := ?_) rfl (Or.inl ⟨by rfl, ?_⟩) ?_
  rotate_left
  · intro W hSw
    go_simp
    all_goals with_reducible rfl
  try simp only [gA, gB, gC, gD, gE, gF, gG]
  refine wTake 2 (v := ?_) rfl (Or.inl ⟨by rfl, ?_⟩) ?_
  rotate_left
  · intro W hSw
    go_simp
    all_goals with_reducible rfl
  try simp only [gA, gB, gC, gD, gE, gF, gG]
  refine wTake 3 (v := ?_) rfl (Or.inl ⟨by rfl, ?_⟩) ?_
  rotate_left
  · intro W hSw
    go_simp
    all_goals with_reducible rfl
  try simp only [gA, gB, gC, gD, gE, gF, gG]
  refine wpAnyH_ready (rs := [4]) (by kernel_rfl) (by simp) ?_
  refine AllReadyH.cons (o := _) rfl (fun K hK => ?_) AllReadyH.nil
  simp only [List.getElem_toArray, List.getElem_cons_zero, List.getElem_cons_succ]
  rw [if_neg (by exact Bool.false_ne_true)]
  refine hK.out _ _ hHeld (fun hHeld => ?_)
  clear hK K
  try simp only [gA, gB, gC, gD, gE, gF, gG]
  refine wTake 5 (v := ?_) rfl (Or.inl ⟨by rfl, ?_⟩) ?_
  rotate_left
  · intro W hSw
    go_simp
    all_goals with_reducible rfl
  try simp only [gA, gB, gC, gD, gE, gF, gG]
  refine wpAnyH_ready (rs := [6]) (by kernel_rfl) (by simp) ?_
  refine AllReadyH.cons (o := _) rfl (fun K hK => ?_) AllReadyH.nil
  simp only [List.getElem_toArray, List.getElem_cons_zero, List.getElem_cons_succ]
  rw [if_pos (by rfl)]
  refine wp_store_mid 72 (.tmp 2) (.tmp 53) rfl w.heap.size 0 (simC 3 T1 O V true 0 0 (.slice none 0 0)) rfl rfl (cbW_there HZD.out (n := 8) rfl) sim_size (sim_one _ _ _ _ _ _ _ _ _ _) ?_
  have HFF := Lib.hid (show CB 72 _ w.heap.size (simC 3 T1 O V true 0 0 (.slice none 0 0)) from CB.sim HZD.out)
  have HBF := Lib.hid (setsW_below (Nat.le_refl _) (simC 3 T1 O V true 0 0 (.slice none 0 0)).toList 0 _ HBD.out)
  have hS2 := CB.farW hne1 (simC 3 T1 O V true 0 0 (.slice none 0 0)).toList 0 _ hHeld
  clear hHeld
  generalize World.setCells _ w.heap.size 0 _ = W7 at *
  refine hK.out _ _ hS2 (fun hHeld => ?_)
  clear hK K
  try simp only [gA, gB, gC, gD, gE, gF, gG]
  refine wTake 7 (v := ?_) rfl (Or.inl ⟨by rfl, ?_⟩) ?_
  rotate_left
  · intro W hSw
    go_simp
    all_goals with_reducible rfl
  try simp only [gA, gB, gC, gD, gE, gF, gG]
  refine wpAnyH_done (by kernel_rfl) ?_ _
  go_wp2
  exact bodyPost_ret (v := .tuple #[.agg (simC 3 T1 O V true 0 0 (.slice none 0 0)), .bool false]) (results_cellT (by rfl) _ _ w.heap.size _ _ _ _ _ (by rfl) (by rfl) HFF.out Tryz.underlying72 (by rfl) sim_size) rfl ⟨simPost_no _ _ _ _ _ _ _ _ _ _ _, HBF.out⟩
theorem sattr_G1 {P : Nat → Prop} {w : World} {v : Value} {l r1 : List Nd} {T1 : ByteArray} {ok1 : Bool} {r2 r3 : List Nd} {e3 : Bool} {O : ByteArray} {ok2 : Bool} {r4 r5 : List Nd} {K5 : Int} {V : ByteArray} {r6 r7 : List Nd} {e7 : Bool} {T7 : ByteArray} {ok7 : Bool} {r8 : List Nd} {e8 : Bool} (A : AttrSt l r1 T1 ok1 r2 r3 e3 O ok2 r4 r5 K5 V r6 r7 e7 T7 ok7 r8 e8) (h : RdN w P v l) (hl : szL l ≤ 100000000) (hx : txD l) (q1 : ok1 = true) (q3 : e3 = false) (q4 : ok2 = true) (q5 : K5 = 1) (q7 : e7 = false) (q8 : (T7.toList == [105]) = true) {R : Option SmD} (hR : (if e8 = true then some (.mk 3 T1 O V true 0 0 []) else none) = R) :
    Calls Tryz.prog 80 #[v] w fun e w' => SimPost (fun g => w.heap.size ≤ g) R e w' ∧ Below w.heap.size w w' := by
  subst q1 q3 q4 q5
  subst q7
  have HSP := Lib.hid (fun (Q : Nat → Prop) (w' : World) => attr_row 3 T1 O V true e8 Q (w' := w'))
  rw [hR] at HSP
  clear hR
  obtain ⟨HB, HZ, HG, hsz0, hszw, hsz1⟩ := attr_pre w v
  have HS0 := SR.start (h.under ((Below.refl w.heap.size w).alloc (Nat.le_refl _) (.cells simZ 72)) (Nat.le_refl _)) hl 0
  obtain ⟨a, vc, rfl, _⟩ := h.shape
  generalize (fun k => P k ∧ k < (w.alloc (.cells simZ 72)).heap.size) = Q at HS0
  have HS := Lib.hid HS0
  clear HS0 h
  obtain ⟨h1, h2, h3, h3e, h4, h4q, h5, h5k, h5v, h6, h7, h7e, h8, h8e⟩ := A
  generalize hgb : (w.alloc (.cells simZ 72)).heap.size = gb at *
  have HW0 := Lib.hid (aW (Q := Q) (gb := gb) (v := .slice a l.length vc) (l := l) h1)
  have HW2 := Lib.hid (aW (Q := Q) (gb := gb) (v := .slice a l.length vc) (l := l) h3)
  have HW4 := Lib.hid (aW (Q := Q) (gb := gb) (v := .slice a l.length vc) (l := l) h5)
  have HW6 := Lib.hid (aW (Q := Q) (gb := gb) (v := .slice a l.length vc) (l := l) h7)
  have HL1 := Lib.hid (aL (Q := Q) (gb := gb) (v := .slice a l.length vc) hx h2)
  have HL7 := Lib.hid (aL (Q := Q) (gb := gb) (v := .slice a l.length vc) hx h8)
  have HE3 := Lib.hid (aE (Q := Q) (gb := gb) (v := .slice a l.length vc) (l := l) h3e)
  have HE7 := Lib.hid (aE (Q := Q) (gb := gb) (v := .slice a l.length vc) (l := l) h7e)
  have HE8 := Lib.hid (aE (Q := Q) (gb := gb) (v := .slice a l.length vc) (l := l) h8e)
  have HO3 := Lib.hid (aO (Q := Q) (gb := gb) (v := .slice a l.length vc) hx h4 h4q)
  have HK5 := Lib.hid (fun (W W' : World) (hs : SR Q W' gb (.slice a l.length vc) l 0 r5 W) => (kind_0 hs).mono (R' := fun e w' => e = .returned (.int .i64 1) ∧ Below W.heap.size W w') (fun e w' ⟨h1', h2'⟩ => ⟨by rw [h5k] at h1'; exact h1', h2'⟩))
  have hr5 : 0 < r5.length := kind_pos h5k (by omega)
  have HT5 := Lib.hid (aT (Q := Q) (gb := gb) (v := .slice a l.length vc) (l := l) hr5 h6)
  generalize hnd : atK r5 0 = nd at *
  obtain ⟨t, k⟩ := nd
  replace h5v : t.text = V := h5v
  have hf1 := fld_tok t
  have hf2 := fld_text t
  rw [h5v] at hf1 hf2
  clear hnd
  clear h1 h2 h3 h3e h4 h4q h5 h5k h5v h6 h7 h7e h8 h8e hl hx
  have HSZ0 := Lib.hid hsz0
  have HW01 := Lib.hid hsz1
  have HSZW := Lib.hid hszw
  have HNE : Hid (w.heap.size ≠ gb) := by show _ ≠ _; omega
  have HLE : Hid (w.heap.size ≤ gb) := by show _ ≤ _; omega
  clear hsz0 hsz1 hszw
  subst hgb
  generalize l.length = NN at *
  go_enter Tryz.func80, Tryz.ntmps80
  go_upto_region 1 with fail
  generalize w.alloc (.cells simZ 72) = W0 at *
  go_upto_region 2 with fail
  generalize W0.alloc (.cells _ 90) = W1 at *
  go_upto_region 7 with (first | (go_at_call 37; (first | refine (HW0.out _ _ HS.out).mono ?_); rintro e w9 ⟨⟨c, rfl⟩, hs⟩; replace HG := Lib.hid (HG.out.trans hs.gw); replace HS := Lib.hid (HS.out.since hs); clear hs) | (go_at_call 77; (first | refine (HL1.out _ _ HS.out).mono ?_); rintro e w9 ⟨rfl, hs⟩; replace HG := Lib.hid (HG.out.trans hs.gw); replace HS := Lib.hid (HS.out.since hs); clear hs; have hbn := (Below.refl w9.heap.size w9).alloc (Nat.le_refl _) (.cells (simC 3 T1 ⟨#[]⟩ ⟨#[]⟩ false 0 0 (.slice none 0 0)) 72); have HX := Lib.hid (CB.new (T := 72) w9 (simC 3 T1 ⟨#[]⟩ ⟨#[]⟩ false 0 0 (.slice none 0 0))); have HGX := Lib.hid (show W1.heap.size ≤ w9.heap.size from HG.out.size); replace HZ := Lib.hid ((HZ.out.gw HG.out HNE.out).alloc (.cells (simC 3 T1 ⟨#[]⟩ ⟨#[]⟩ false 0 0 (.slice none 0 0)) 72)); replace HB := Lib.hid ((HG.out.toBelow HB.out HLE.out (Nat.le_refl _)).alloc (Nat.le_trans HSZW.out HG.out.size) (.cells (simC 3 T1 ⟨#[]⟩ ⟨#[]⟩ false 0 0 (.slice none 0 0)) 72)); replace HS := Lib.hid (HS.out.below hbn); replace HG := Lib.hid (Gw.refl W0.heap.size (w9.alloc (.cells (simC 3 T1 ⟨#[]⟩ ⟨#[]⟩ false 0 0 (.slice none 0 0)) 72))); clear hbn))
  generalize w9.alloc (.cells _ 72) = W2 at *
  generalize w9.heap.size = gx at *
  have hgx := HGX.out
  go_upto_region 11 with (first | (go_at_call 37; (first | refine (HW2.out _ _ HS.out).mono ?_); rintro e w9 ⟨⟨c, rfl⟩, hs⟩; replace HG := Lib.hid (HG.out.trans hs.gw); replace HS := Lib.hid (HS.out.since hs); clear hs) | (go_at_call 40; (first | refine (HE3.out _ _ HS.out).mono ?_); rintro e w9 ⟨rfl, hb⟩; replace HG := Lib.hid (HG.out.belowS hb); replace HS := Lib.hid (HS.out.below hb); clear hb) | (go_at_call 87; refine (HO3.out _ _ HS.out).mono ?_; rintro e w9 ⟨rfl, hs⟩; replace HG := Lib.hid (HG.out.trans hs.gw); replace HS := Lib.hid (HS.out.since hs); clear hs; have x2 : w9.cell? ⟨gx, 2, none⟩ = some (.string ⟨#[]⟩) := (HX.out.gw HG.out (show gx ≠ W0.heap.size by have := HGX.out; have := HW01.out; have := HSZ0.out; omega)).cell 2; have y2 : w9.frozen? ⟨gx, 2, none⟩ = false := (HX.out.gw HG.out (show gx ≠ W0.heap.size by have := HGX.out; have := HW01.out; have := HSZ0.out; omega)).frozen 2; have HXN := Lib.hid (show CB 72 (w9.setCell ⟨gx, 2, none⟩ (.string O)) gx (simC 3 T1 O ⟨#[]⟩ false 0 0 (.slice none 0 0)) from CB.simOp (HX.out.gw HG.out (show gx ≠ W0.heap.size by have := HGX.out; have := HW01.out; have := HSZ0.out; omega)) _); have HZN := Lib.hid ((HZ.out.gw HG.out HNE.out).far (p := ⟨gx, 2, none⟩) (show w.heap.size ≠ gx by have := HGX.out; have := HW01.out; have := HSZ0.out; omega) (.string O)); have HSN := Lib.hid (HS.out.far (p := ⟨gx, 2, none⟩) HGX.out (.string O)); have HBN := Lib.hid ((HG.out.toBelow HB.out HLE.out (Nat.le_refl _)).setCell (p := ⟨gx, 2, none⟩) (show w.heap.size ≤ gx by have := HGX.out; have := HW01.out; have := HSZ0.out; omega) (.string O)); have HGN := Lib.hid (Gw.refl W0.heap.size (w9.setCell ⟨gx, 2, none⟩ (.string O))); clear HX HZ HS HB HG; have HX := HXN; have HZ := HZN; have HS := HSN; have HB := HBN; have HG := HGN; clear HXN HZN HSN HBN HGN))
  clear x2 y2
  generalize World.setCell _ _ _ = W3 at *
  go_upto_region 17 with (first | (go_at_call 37; (first | refine (HW4.out _ _ HS.out).mono ?_); rintro e w9 ⟨⟨c, rfl⟩, hs⟩; replace HG := Lib.hid (HG.out.trans hs.gw); replace HS := Lib.hid (HS.out.since hs); clear hs) | (go_at_call 60; refine (HK5.out _ _ HS.out).mono ?_; rintro e w9 ⟨rfl, hb⟩; replace HG := Lib.hid (HG.out.belowS hb); replace HS := Lib.hid (HS.out.below hb); clear hb) | (go_at_call 78; refine (HT5.out _ _ HS.out).mono ?_; rintro e w9 ⟨⟨u, rfl, hu⟩, hs⟩; simp only [Nd.tok] at *; replace HG := Lib.hid (HG.out.trans hs.gw); replace HS := Lib.hid (HS.out.since hs); clear hs hu; have x3 : w9.cell? ⟨gx, 3, none⟩ = some (.string ⟨#[]⟩) := (HX.out.gw HG.out (show gx ≠ W0.heap.size by have := HGX.out; have := HW01.out; have := HSZ0.out; omega)).cell 3; have y3 : w9.frozen? ⟨gx, 3, none⟩ = false := (HX.out.gw HG.out (show gx ≠ W0.heap.size by have := HGX.out; have := HW01.out; have := HSZ0.out; omega)).frozen 3; have HXN := Lib.hid (show CB 72 (w9.setCell ⟨gx, 3, none⟩ (.string V)) gx (simC 3 T1 O V false 0 0 (.slice none 0 0)) from CB.simVal (HX.out.gw HG.out (show gx ≠ W0.heap.size by have := HGX.out; have := HW01.out; have := HSZ0.out; omega)) _); have HZN := Lib.hid ((HZ.out.gw HG.out HNE.out).far (p := ⟨gx, 3, none⟩) (show w.heap.size ≠ gx by have := HGX.out; have := HW01.out; have := HSZ0.out; omega) (.string V)); have HSN := Lib.hid (HS.out.far (p := ⟨gx, 3, none⟩) HGX.out (.string V)); have HBN := Lib.hid ((HG.out.toBelow HB.out HLE.out (Nat.le_refl _)).setCell (p := ⟨gx, 3, none⟩) (show w.heap.size ≤ gx by have := HGX.out; have := HW01.out; have := HSZ0.out; omega) (.string V)); have HGN := Lib.hid (Gw.refl W0.heap.size (w9.setCell ⟨gx, 3, none⟩ (.string V))); clear HX HZ HS HB HG; have HX := HXN; have HZ := HZN; have HS := HSN; have HB := HBN; have HG := HGN; clear HXN HZN HSN HBN HGN))
  clear x3 y3
  generalize World.setCell _ _ _ = W4 at *
  go_upto_region 22 with (first | (go_at_call 37; (first | refine (HW6.out _ _ HS.out).mono ?_); rintro e w9 ⟨⟨c, rfl⟩, hs⟩; replace HG := Lib.hid (HG.out.trans hs.gw); replace HS := Lib.hid (HS.out.since hs); clear hs) | (go_at_call 40; (first | refine (HE7.out _ _ HS.out).mono ?_); rintro e w9 ⟨rfl, hb⟩; replace HG := Lib.hid (HG.out.belowS hb); replace HS := Lib.hid (HS.out.below hb); clear hb) | (go_at_call 77; (first | refine (HL7.out _ _ HS.out).mono ?_); rintro e w9 ⟨rfl, hs⟩; replace HG := Lib.hid (HG.out.trans hs.gw); replace HS := Lib.hid (HS.out.since hs); clear hs; have x4 : w9.cell? ⟨gx, 4, none⟩ = some (.bool false) := (HX.out.gw HG.out (show gx ≠ W0.heap.size by have := HGX.out; have := HW01.out; have := HSZ0.out; omega)).cell 4; have y4 : w9.frozen? ⟨gx, 4, none⟩ = false := (HX.out.gw HG.out (show gx ≠ W0.heap.size by have := HGX.out; have := HW01.out; have := HSZ0.out; omega)).frozen 4; have HXN := Lib.hid (show CB 72 (w9.setCell ⟨gx, 4, none⟩ (.bool true)) gx (simC 3 T1 O V true 0 0 (.slice none 0 0)) from CB.simFold (HX.out.gw HG.out (show gx ≠ W0.heap.size by have := HGX.out; have := HW01.out; have := HSZ0.out; omega)) _); have HZN := Lib.hid ((HZ.out.gw HG.out HNE.out).far (p := ⟨gx, 4, none⟩) (show w.heap.size ≠ gx by have := HGX.out; have := HW01.out; have := HSZ0.out; omega) (.bool true)); have HSN := Lib.hid (HS.out.far (p := ⟨gx, 4, none⟩) HGX.out (.bool true)); have HBN := Lib.hid ((HG.out.toBelow HB.out HLE.out (Nat.le_refl _)).setCell (p := ⟨gx, 4, none⟩) (show w.heap.size ≤ gx by have := HGX.out; have := HW01.out; have := HSZ0.out; omega) (.bool true)); have HGN := Lib.hid (Gw.refl W0.heap.size (w9.setCell ⟨gx, 4, none⟩ (.bool true))); clear HX HZ HS HB HG; have HX := HXN; have HZ := HZN; have HS := HSN; have HB := HBN; have HG := HGN; clear HXN HZN HSN HBN HGN))
  clear x4 y4
  generalize World.setCell _ _ _ = W5 at *
  have HZD := Lib.hid (show CB 72 W5.drew w.heap.size simZ from HZ.out)
  have HSD := Lib.hid HS.out.drew
  have HBD := Lib.hid HB.out.drew
  have hne1 : gx ≠ w.heap.size := by have := HGX.out; have := HW01.out; have := HSZ0.out; omega
  refine wp_region_held_drew (S := fun W => CB 72 W gx (simC 3 T1 O V true 0 0 (.slice none 0 0))) (by kernel_rfl) (show CB 72 W5.drew gx (simC 3 T1 O V true 0 0 (.slice none 0 0)) from HX.out) (fun hHeld => ?_)
  generalize W5.drew = W6 at *
  refine wTake 0 (v := ?_) rfl (Or.inl ⟨by rfl, ?_⟩) ?_
  rotate_left
  · intro W hSw
    have x0 : W.cell? ⟨gx, 0, none⟩ = some (.int .i64 3) := hSw.cell 0
    have x1 : W.cell? ⟨gx, 1, none⟩ = some (.string T1) := hSw.cell 1
    have x2 : W.cell? ⟨gx, 2, none⟩ = some (.string O) := hSw.cell 2
    have x3 : W.cell? ⟨gx, 3, none⟩ = some (.string V) := hSw.cell 3
    have x4 : W.cell? ⟨gx, 4, none⟩ = some (.bool true) := hSw.cell 4
    have x5 : W.cell? ⟨gx, 5, none⟩ = some (.int .i64 0) := hSw.cell 5
    have x6 : W.cell? ⟨gx, 6, none⟩ = some (.int .i64 0) := hSw.cell 6
    have x7 : W.cell? ⟨gx, 7, none⟩ = some (.slice none 0 0) := hSw.cell 7
    go_simp
    all_goals with_reducible rfl
  try simp only [gA, gB, gC, gD, gE, gF, gG]
  refine wTake 1 (v := ?_) rfl (Or.inl ⟨by rfl, ?_⟩) ?_
  rotate_left
  · intro W hSw
    go_simp
    all_goals with_reducible rfl
  try simp only [gA, gB, gC, gD, gE, gF, gG]
  refine wTake 2 (v := ?_) rfl (Or.inl ⟨by rfl, ?_⟩) ?_
  rotate_left
  · intro W hSw
    go_simp
    all_goals with_reducible rfl
  try simp only [gA, gB, gC, gD, gE, gF, gG]
  refine wTake 3 (v := ?_) rfl (Or.inl ⟨by rfl, ?_⟩) ?_
  rotate_left
  · intro W hSw
    go_simp
    all_goals with_reducible rfl
  try simp only [gA, gB, gC, gD, gE, gF, gG]
  refine wpAnyH_ready (rs := [4]) (by kernel_rfl) (by simp) ?_
  refine AllReadyH.cons (o := _) rfl (fun K hK => ?_) AllReadyH.nil
  simp only [List.getElem_toArray, List.getElem_cons_zero, List.getElem_cons_succ]
  rw [if_pos (by rfl)]
  go_simp
  refine (HE8.out _ _ HSD.out).mono ?_
  rintro e w9 ⟨rfl, hb⟩
  have hS1 := CB.below hHeld hb hHeld.lt
  replace HZD := Lib.hid (HZD.out.below hb HZD.out.lt)
  replace HBD := Lib.hid (belowU HBD.out hb)
  clear hHeld hb
  go_simp
  refine hK.out _ _ hS1 (fun hHeld => ?_)
  clear hK K
  try simp only [gA, gB, gC, gD, gE, gF, gG]
  refine wTake 5 (v := ?_) rfl (Or.inl ⟨by rfl, ?_⟩) ?_
  rotate_left
  · intro W hSw
    go_simp
    all_goals with_reducible rfl
  try simp only [gA, gB, gC, gD, gE, gF, gG]
  refine wpAnyH_ready (rs := [6]) (by kernel_rfl) (by simp) ?_
  refine AllReadyH.cons (o := _) rfl (fun K hK => ?_) AllReadyH.nil
  simp only [List.getElem_toArray, List.getElem_cons_zero, List.getElem_cons_succ]
  rw [if_pos (by rfl)]
  refine wp_store_mid 72 (.tmp 2) (.tmp 53) rfl w.heap.size 0 (simC 3 T1 O V true 0 0 (.slice none 0 0)) rfl rfl (cbW_there HZD.out (n := 8) rfl) sim_size (sim_one _ _ _ _ _ _ _ _ _ _) ?_
  have HFF := Lib.hid (show CB 72 _ w.heap.size (simC 3 T1 O V true 0 0 (.slice none 0 0)) from CB.sim HZD.out)
  have HBF := Lib.hid (setsW_below (Nat.le_refl _) (simC 3 T1 O V true 0 0 (.slice none 0 0)).toList 0 _ HBD.out)
  have hS2 := CB.farW hne1 (simC 3 T1 O V true 0 0 (.slice none 0 0)).toList 0 _ hHeld
  clear hHeld
  generalize World.setCells _ w.heap.size 0 _ = W7 at *
  refine hK.out _ _ hS2 (fun hHeld => ?_)
  clear hK K
  try simp only [gA, gB, gC, gD, gE, gF, gG]
  refine wTake 7 (v := ?_) rfl (Or.inl ⟨by rfl, ?_⟩) ?_
  rotate_left
  · intro W hSw
    go_simp
    all_goals with_reducible rfl
  try simp only [gA, gB, gC, gD, gE, gF, gG]
  refine wpAnyH_done (by kernel_rfl) ?_ _
  go_wp2
  exact bodyPost_ret (v := .tuple #[.agg (simC 3 T1 O V true 0 0 (.slice none 0 0)), .bool e8]) (results_cellT (by rfl) _ _ w.heap.size _ _ _ _ _ (by rfl) (by rfl) HFF.out Tryz.underlying72 (by rfl) sim_size) rfl ⟨HSP.out _ _, HBF.out⟩
theorem sattr_E5 {P : Nat → Prop} {w : World} {v : Value} {l r1 : List Nd} {T1 : ByteArray} {ok1 : Bool} {r2 r3 : List Nd} {e3 : Bool} {O : ByteArray} {ok2 : Bool} {r4 r5 : List Nd} {K5 : Int} {V : ByteArray} {r6 r7 : List Nd} {e7 : Bool} {T7 : ByteArray} {ok7 : Bool} {r8 : List Nd} {e8 : Bool} (A : AttrSt l r1 T1 ok1 r2 r3 e3 O ok2 r4 r5 K5 V r6 r7 e7 T7 ok7 r8 e8) (h : RdN w P v l) (hl : szL l ≤ 100000000) (hx : txD l) (q1 : ok1 = true) (q3 : e3 = false) (q4 : ok2 = true) (q5 : K5 = 5) (q7 : e7 = true) :
    Calls Tryz.prog 80 #[v] w fun e w' => SimPost (fun g => w.heap.size ≤ g) (some (.mk 3 T1 O V false 0 0 [])) e w' ∧ Below w.heap.size w w' := by
  subst q1 q3 q4 q5
  subst q7
  obtain ⟨HB, HZ, HG, hsz0, hszw, hsz1⟩ := attr_pre w v
  have HS0 := SR.start (h.under ((Below.refl w.heap.size w).alloc (Nat.le_refl _) (.cells simZ 72)) (Nat.le_refl _)) hl 0
  obtain ⟨a, vc, rfl, _⟩ := h.shape
  generalize (fun k => P k ∧ k < (w.alloc (.cells simZ 72)).heap.size) = Q at HS0
  have HS := Lib.hid HS0
  clear HS0 h
  obtain ⟨h1, h2, h3, h3e, h4, h4q, h5, h5k, h5v, h6, h7, h7e, h8, h8e⟩ := A
  generalize hgb : (w.alloc (.cells simZ 72)).heap.size = gb at *
  have HW0 := Lib.hid (aW (Q := Q) (gb := gb) (v := .slice a l.length vc) (l := l) h1)
  have HW2 := Lib.hid (aW (Q := Q) (gb := gb) (v := .slice a l.length vc) (l := l) h3)
  have HW4 := Lib.hid (aW (Q := Q) (gb := gb) (v := .slice a l.length vc) (l := l) h5)
  have HW6 := Lib.hid (aW (Q := Q) (gb := gb) (v := .slice a l.length vc) (l := l) h7)
  have HL1 := Lib.hid (aL (Q := Q) (gb := gb) (v := .slice a l.length vc) hx h2)
  have HE3 := Lib.hid (aE (Q := Q) (gb := gb) (v := .slice a l.length vc) (l := l) h3e)
  have HE7 := Lib.hid (aE (Q := Q) (gb := gb) (v := .slice a l.length vc) (l := l) h7e)
  have HO3 := Lib.hid (aO (Q := Q) (gb := gb) (v := .slice a l.length vc) hx h4 h4q)
  have HK5 := Lib.hid (fun (W W' : World) (hs : SR Q W' gb (.slice a l.length vc) l 0 r5 W) => (kind_0 hs).mono (R' := fun e w' => e = .returned (.int .i64 5) ∧ Below W.heap.size W w') (fun e w' ⟨h1', h2'⟩ => ⟨by rw [h5k] at h1'; exact h1', h2'⟩))
  have hr5 : 0 < r5.length := kind_pos h5k (by omega)
  have HT5 := Lib.hid (aT (Q := Q) (gb := gb) (v := .slice a l.length vc) (l := l) hr5 h6)
  generalize hnd : atK r5 0 = nd at *
  obtain ⟨t, k⟩ := nd
  replace h5v : t.text = V := h5v
  have hf1 := fld_tok t
  have hf2 := fld_text t
  rw [h5v] at hf1 hf2
  clear hnd
  clear h1 h2 h3 h3e h4 h4q h5 h5k h5v h6 h7 h7e h8 h8e hl hx
  have HSZ0 := Lib.hid hsz0
  have HW01 := Lib.hid hsz1
  have HSZW := Lib.hid hszw
  have HNE : Hid (w.heap.size ≠ gb) := by show _ ≠ _; omega
  have HLE : Hid (w.heap.size ≤ gb) := by show _ ≤ _; omega
  clear hsz0 hsz1 hszw
  subst hgb
  generalize l.length = NN at *
  go_enter Tryz.func80, Tryz.ntmps80
  go_upto_region 1 with fail
  generalize w.alloc (.cells simZ 72) = W0 at *
  go_upto_region 2 with fail
  generalize W0.alloc (.cells _ 90) = W1 at *
  go_upto_region 7 with (first | (go_at_call 37; (first | refine (HW0.out _ _ HS.out).mono ?_); rintro e w9 ⟨⟨c, rfl⟩, hs⟩; replace HG := Lib.hid (HG.out.trans hs.gw); replace HS := Lib.hid (HS.out.since hs); clear hs) | (go_at_call 77; (first | refine (HL1.out _ _ HS.out).mono ?_); rintro e w9 ⟨rfl, hs⟩; replace HG := Lib.hid (HG.out.trans hs.gw); replace HS := Lib.hid (HS.out.since hs); clear hs; have hbn := (Below.refl w9.heap.size w9).alloc (Nat.le_refl _) (.cells (simC 3 T1 ⟨#[]⟩ ⟨#[]⟩ false 0 0 (.slice none 0 0)) 72); have HX := Lib.hid (CB.new (T := 72) w9 (simC 3 T1 ⟨#[]⟩ ⟨#[]⟩ false 0 0 (.slice none 0 0))); have HGX := Lib.hid (show W1.heap.size ≤ w9.heap.size from HG.out.size); replace HZ := Lib.hid ((HZ.out.gw HG.out HNE.out).alloc (.cells (simC 3 T1 ⟨#[]⟩ ⟨#[]⟩ false 0 0 (.slice none 0 0)) 72)); replace HB := Lib.hid ((HG.out.toBelow HB.out HLE.out (Nat.le_refl _)).alloc (Nat.le_trans HSZW.out HG.out.size) (.cells (simC 3 T1 ⟨#[]⟩ ⟨#[]⟩ false 0 0 (.slice none 0 0)) 72)); replace HS := Lib.hid (HS.out.below hbn); replace HG := Lib.hid (Gw.refl W0.heap.size (w9.alloc (.cells (simC 3 T1 ⟨#[]⟩ ⟨#[]⟩ false 0 0 (.slice none 0 0)) 72))); clear hbn))
  generalize w9.alloc (.cells _ 72) = W2 at *
  generalize w9.heap.size = gx at *
  have hgx := HGX.out
  go_upto_region 11 with (first | (go_at_call 37; (first | refine (HW2.out _ _ HS.out).mono ?_); rintro e w9 ⟨⟨c, rfl⟩, hs⟩; replace HG := Lib.hid (HG.out.trans hs.gw); replace HS := Lib.hid (HS.out.since hs); clear hs) | (go_at_call 40; (first | refine (HE3.out _ _ HS.out).mono ?_); rintro e w9 ⟨rfl, hb⟩; replace HG := Lib.hid (HG.out.belowS hb); replace HS := Lib.hid (HS.out.below hb); clear hb) | (go_at_call 87; refine (HO3.out _ _ HS.out).mono ?_; rintro e w9 ⟨rfl, hs⟩; replace HG := Lib.hid (HG.out.trans hs.gw); replace HS := Lib.hid (HS.out.since hs); clear hs; have x2 : w9.cell? ⟨gx, 2, none⟩ = some (.string ⟨#[]⟩) := (HX.out.gw HG.out (show gx ≠ W0.heap.size by have := HGX.out; have := HW01.out; have := HSZ0.out; omega)).cell 2; have y2 : w9.frozen? ⟨gx, 2, none⟩ = false := (HX.out.gw HG.out (show gx ≠ W0.heap.size by have := HGX.out; have := HW01.out; have := HSZ0.out; omega)).frozen 2; have HXN := Lib.hid (show CB 72 (w9.setCell ⟨gx, 2, none⟩ (.string O)) gx (simC 3 T1 O ⟨#[]⟩ false 0 0 (.slice none 0 0)) from CB.simOp (HX.out.gw HG.out (show gx ≠ W0.heap.size by have := HGX.out; have := HW01.out; have := HSZ0.out; omega)) _); have HZN := Lib.hid ((HZ.out.gw HG.out HNE.out).far (p := ⟨gx, 2, none⟩) (show w.heap.size ≠ gx by have := HGX.out; have := HW01.out; have := HSZ0.out; omega) (.string O)); have HSN := Lib.hid (HS.out.far (p := ⟨gx, 2, none⟩) HGX.out (.string O)); have HBN := Lib.hid ((HG.out.toBelow HB.out HLE.out (Nat.le_refl _)).setCell (p := ⟨gx, 2, none⟩) (show w.heap.size ≤ gx by have := HGX.out; have := HW01.out; have := HSZ0.out; omega) (.string O)); have HGN := Lib.hid (Gw.refl W0.heap.size (w9.setCell ⟨gx, 2, none⟩ (.string O))); clear HX HZ HS HB HG; have HX := HXN; have HZ := HZN; have HS := HSN; have HB := HBN; have HG := HGN; clear HXN HZN HSN HBN HGN))
  clear x2 y2
  generalize World.setCell _ _ _ = W3 at *
  go_upto_region 17 with (first | (go_at_call 37; (first | refine (HW4.out _ _ HS.out).mono ?_); rintro e w9 ⟨⟨c, rfl⟩, hs⟩; replace HG := Lib.hid (HG.out.trans hs.gw); replace HS := Lib.hid (HS.out.since hs); clear hs) | (go_at_call 60; refine (HK5.out _ _ HS.out).mono ?_; rintro e w9 ⟨rfl, hb⟩; replace HG := Lib.hid (HG.out.belowS hb); replace HS := Lib.hid (HS.out.below hb); clear hb) | (go_at_call 78; refine (HT5.out _ _ HS.out).mono ?_; rintro e w9 ⟨⟨u, rfl, hu⟩, hs⟩; simp only [Nd.tok] at *; replace HG := Lib.hid (HG.out.trans hs.gw); replace HS := Lib.hid (HS.out.since hs); clear hs hu; have x3 : w9.cell? ⟨gx, 3, none⟩ = some (.string ⟨#[]⟩) := (HX.out.gw HG.out (show gx ≠ W0.heap.size by have := HGX.out; have := HW01.out; have := HSZ0.out; omega)).cell 3; have y3 : w9.frozen? ⟨gx, 3, none⟩ = false := (HX.out.gw HG.out (show gx ≠ W0.heap.size by have := HGX.out; have := HW01.out; have := HSZ0.out; omega)).frozen 3; have HXN := Lib.hid (show CB 72 (w9.setCell ⟨gx, 3, none⟩ (.string V)) gx (simC 3 T1 O V false 0 0 (.slice none 0 0)) from CB.simVal (HX.out.gw HG.out (show gx ≠ W0.heap.size by have := HGX.out; have := HW01.out; have := HSZ0.out; omega)) _); have HZN := Lib.hid ((HZ.out.gw HG.out HNE.out).far (p := ⟨gx, 3, none⟩) (show w.heap.size ≠ gx by have := HGX.out; have := HW01.out; have := HSZ0.out; omega) (.string V)); have HSN := Lib.hid (HS.out.far (p := ⟨gx, 3, none⟩) HGX.out (.string V)); have HBN := Lib.hid ((HG.out.toBelow HB.out HLE.out (Nat.le_refl _)).setCell (p := ⟨gx, 3, none⟩) (show w.heap.size ≤ gx by have := HGX.out; have := HW01.out; have := HSZ0.out; omega) (.string V)); have HGN := Lib.hid (Gw.refl W0.heap.size (w9.setCell ⟨gx, 3, none⟩ (.string V))); clear HX HZ HS HB HG; have HX := HXN; have HZ := HZN; have HS := HSN; have HB := HBN; have HG := HGN; clear HXN HZN HSN HBN HGN))
  clear x3 y3
  generalize World.setCell _ _ _ = W4 at *
  go_wp2_with (first | (have hbb := HS.out; refine wpList_store_mid (by rfl) 72 (.tmp 2) (.tmp 47) (by rfl) w.heap.size 0 (simC 3 T1 O V false 0 0 (.slice none 0 0)) (by rfl) (by rfl) (cbW_there (HZ.out.gw HG.out HNE.out) (n := 8) rfl) sim_size (sim_one _ _ _ _ _ _ _ _ _ _) ?_; have HFF := Lib.hid (show CB 72 _ w.heap.size (simC 3 T1 O V false 0 0 (.slice none 0 0)) from CB.sim (HZ.out.gw HG.out HNE.out)); have HBF := Lib.hid (setsW_below (Nat.le_refl _) (simC 3 T1 O V false 0 0 (.slice none 0 0)).toList 0 _ (HG.out.toBelow HB.out HLE.out (Nat.le_refl _))); generalize World.setCells _ w.heap.size 0 _ = W9 at *) | (go_at_call 37; (first | refine (HW6.out _ _ HS.out).mono ?_); rintro e w9 ⟨⟨c, rfl⟩, hs⟩; replace HG := Lib.hid (HG.out.trans hs.gw); replace HS := Lib.hid (HS.out.since hs); clear hs) | (go_at_call 40; (first | refine (HE7.out _ _ HS.out).mono ?_); rintro e w9 ⟨rfl, hb⟩; replace HG := Lib.hid (HG.out.belowS hb); replace HS := Lib.hid (HS.out.below hb); clear hb; have x0 : w9.cell? ⟨gx, 0, none⟩ = some (.int .i64 3) := (HX.out.gw HG.out (show gx ≠ W0.heap.size by have := HGX.out; have := HW01.out; have := HSZ0.out; omega)).cell 0; have x1 : w9.cell? ⟨gx, 1, none⟩ = some (.string T1) := (HX.out.gw HG.out (show gx ≠ W0.heap.size by have := HGX.out; have := HW01.out; have := HSZ0.out; omega)).cell 1; have x2 : w9.cell? ⟨gx, 2, none⟩ = some (.string O) := (HX.out.gw HG.out (show gx ≠ W0.heap.size by have := HGX.out; have := HW01.out; have := HSZ0.out; omega)).cell 2; have x3 : w9.cell? ⟨gx, 3, none⟩ = some (.string V) := (HX.out.gw HG.out (show gx ≠ W0.heap.size by have := HGX.out; have := HW01.out; have := HSZ0.out; omega)).cell 3; have x4 : w9.cell? ⟨gx, 4, none⟩ = some (.bool false) := (HX.out.gw HG.out (show gx ≠ W0.heap.size by have := HGX.out; have := HW01.out; have := HSZ0.out; omega)).cell 4; have x5 : w9.cell? ⟨gx, 5, none⟩ = some (.int .i64 0) := (HX.out.gw HG.out (show gx ≠ W0.heap.size by have := HGX.out; have := HW01.out; have := HSZ0.out; omega)).cell 5; have x6 : w9.cell? ⟨gx, 6, none⟩ = some (.int .i64 0) := (HX.out.gw HG.out (show gx ≠ W0.heap.size by have := HGX.out; have := HW01.out; have := HSZ0.out; omega)).cell 6; have x7 : w9.cell? ⟨gx, 7, none⟩ = some (.slice none 0 0) := (HX.out.gw HG.out (show gx ≠ W0.heap.size by have := HGX.out; have := HW01.out; have := HSZ0.out; omega)).cell 7))
  exact bodyPost_ret (v := .tuple #[.agg (simC 3 T1 O V false 0 0 (.slice none 0 0)), .bool true]) (results_cellT (by rfl) _ _ w.heap.size _ _ _ _ _ (by rfl) (by rfl) HFF.out Tryz.underlying72 (by rfl) sim_size) rfl ⟨simPost_yes _ _ _ _ _ _ _ _ _ _ _, HBF.out⟩
theorem sattr_F5 {P : Nat → Prop} {w : World} {v : Value} {l r1 : List Nd} {T1 : ByteArray} {ok1 : Bool} {r2 r3 : List Nd} {e3 : Bool} {O : ByteArray} {ok2 : Bool} {r4 r5 : List Nd} {K5 : Int} {V : ByteArray} {r6 r7 : List Nd} {e7 : Bool} {T7 : ByteArray} {ok7 : Bool} {r8 : List Nd} {e8 : Bool} (A : AttrSt l r1 T1 ok1 r2 r3 e3 O ok2 r4 r5 K5 V r6 r7 e7 T7 ok7 r8 e8) (h : RdN w P v l) (hl : szL l ≤ 100000000) (hx : txD l) (q1 : ok1 = true) (q3 : e3 = false) (q4 : ok2 = true) (q5 : K5 = 5) (q7 : e7 = false) (q8 : (T7.toList == [105]) = false) :
    Calls Tryz.prog 80 #[v] w fun e w' => SimPost (fun g => w.heap.size ≤ g) none e w' ∧ Below w.heap.size w w' := by
  subst q1 q3 q4 q5
  subst q7
  obtain ⟨HB, HZ, HG, hsz0, hszw, hsz1⟩ := attr_pre w v
  have HS0 := SR.start (h.under ((Below.refl w.heap.size w).alloc (Nat.le_refl _) (.cells simZ 72)) (Nat.le_refl _)) hl 0
  obtain ⟨a, vc, rfl, _⟩ := h.shape
  generalize (fun k => P k ∧ k < (w.alloc (.cells simZ 72)).heap.size) = Q at HS0
  have HS := Lib.hid HS0
  clear HS0 h
  obtain ⟨h1, h2, h3, h3e, h4, h4q, h5, h5k, h5v, h6, h7, h7e, h8, h8e⟩ := A
  generalize hgb : (w.alloc (.cells simZ 72)).heap.size = gb at *
  have HW0 := Lib.hid (aW (Q := Q) (gb := gb) (v := .slice a l.length vc) (l := l) h1)
  have HW2 := Lib.hid (aW (Q := Q) (gb := gb) (v := .slice a l.length vc) (l := l) h3)
  have HW4 := Lib.hid (aW (Q := Q) (gb := gb) (v := .slice a l.length vc) (l := l) h5)
  have HW6 := Lib.hid (aW (Q := Q) (gb := gb) (v := .slice a l.length vc) (l := l) h7)
  have HL1 := Lib.hid (aL (Q := Q) (gb := gb) (v := .slice a l.length vc) hx h2)
  have HL7 := Lib.hid (aL (Q := Q) (gb := gb) (v := .slice a l.length vc) hx h8)
  have HE3 := Lib.hid (aE (Q := Q) (gb := gb) (v := .slice a l.length vc) (l := l) h3e)
  have HE7 := Lib.hid (aE (Q := Q) (gb := gb) (v := .slice a l.length vc) (l := l) h7e)
  have HO3 := Lib.hid (aO (Q := Q) (gb := gb) (v := .slice a l.length vc) hx h4 h4q)
  have HK5 := Lib.hid (fun (W W' : World) (hs : SR Q W' gb (.slice a l.length vc) l 0 r5 W) => (kind_0 hs).mono (R' := fun e w' => e = .returned (.int .i64 5) ∧ Below W.heap.size W w') (fun e w' ⟨h1', h2'⟩ => ⟨by rw [h5k] at h1'; exact h1', h2'⟩))
  have hr5 : 0 < r5.length := kind_pos h5k (by omega)
  have HT5 := Lib.hid (aT (Q := Q) (gb := gb) (v := .slice a l.length vc) (l := l) hr5 h6)
  generalize hnd : atK r5 0 = nd at *
  obtain ⟨t, k⟩ := nd
  replace h5v : t.text = V := h5v
  have hf1 := fld_tok t
  have hf2 := fld_text t
  rw [h5v] at hf1 hf2
  clear hnd
  clear h1 h2 h3 h3e h4 h4q h5 h5k h5v h6 h7 h7e h8 h8e hl hx
  have HSZ0 := Lib.hid hsz0
  have HW01 := Lib.hid hsz1
  have HSZW := Lib.hid hszw
  have HNE : Hid (w.heap.size ≠ gb) := by show _ ≠ _; omega
  have HLE : Hid (w.heap.size ≤ gb) := by show _ ≤ _; omega
  clear hsz0 hsz1 hszw
  subst hgb
  generalize l.length = NN at *
  go_enter Tryz.func80, Tryz.ntmps80
  go_upto_region 1 with fail
  generalize w.alloc (.cells simZ 72) = W0 at *
  go_upto_region 2 with fail
  generalize W0.alloc (.cells _ 90) = W1 at *
  go_upto_region 7 with (first | (go_at_call 37; (first | refine (HW0.out _ _ HS.out).mono ?_); rintro e w9 ⟨⟨c, rfl⟩, hs⟩; replace HG := Lib.hid (HG.out.trans hs.gw); replace HS := Lib.hid (HS.out.since hs); clear hs) | (go_at_call 77; (first | refine (HL1.out _ _ HS.out).mono ?_); rintro e w9 ⟨rfl, hs⟩; replace HG := Lib.hid (HG.out.trans hs.gw); replace HS := Lib.hid (HS.out.since hs); clear hs; have hbn := (Below.refl w9.heap.size w9).alloc (Nat.le_refl _) (.cells (simC 3 T1 ⟨#[]⟩ ⟨#[]⟩ false 0 0 (.slice none 0 0)) 72); have HX := Lib.hid (CB.new (T := 72) w9 (simC 3 T1 ⟨#[]⟩ ⟨#[]⟩ false 0 0 (.slice none 0 0))); have HGX := Lib.hid (show W1.heap.size ≤ w9.heap.size from HG.out.size); replace HZ := Lib.hid ((HZ.out.gw HG.out HNE.out).alloc (.cells (simC 3 T1 ⟨#[]⟩ ⟨#[]⟩ false 0 0 (.slice none 0 0)) 72)); replace HB := Lib.hid ((HG.out.toBelow HB.out HLE.out (Nat.le_refl _)).alloc (Nat.le_trans HSZW.out HG.out.size) (.cells (simC 3 T1 ⟨#[]⟩ ⟨#[]⟩ false 0 0 (.slice none 0 0)) 72)); replace HS := Lib.hid (HS.out.below hbn); replace HG := Lib.hid (Gw.refl W0.heap.size (w9.alloc (.cells (simC 3 T1 ⟨#[]⟩ ⟨#[]⟩ false 0 0 (.slice none 0 0)) 72))); clear hbn))
  generalize w9.alloc (.cells _ 72) = W2 at *
  generalize w9.heap.size = gx at *
  have hgx := HGX.out
  go_upto_region 11 with (first | (go_at_call 37; (first | refine (HW2.out _ _ HS.out).mono ?_); rintro e w9 ⟨⟨c, rfl⟩, hs⟩; replace HG := Lib.hid (HG.out.trans hs.gw); replace HS := Lib.hid (HS.out.since hs); clear hs) | (go_at_call 40; (first | refine (HE3.out _ _ HS.out).mono ?_); rintro e w9 ⟨rfl, hb⟩; replace HG := Lib.hid (HG.out.belowS hb); replace HS := Lib.hid (HS.out.below hb); clear hb) | (go_at_call 87; refine (HO3.out _ _ HS.out).mono ?_; rintro e w9 ⟨rfl, hs⟩; replace HG := Lib.hid (HG.out.trans hs.gw); replace HS := Lib.hid (HS.out.since hs); clear hs; have x2 : w9.cell? ⟨gx, 2, none⟩ = some (.string ⟨#[]⟩) := (HX.out.gw HG.out (show gx ≠ W0.heap.size by have := HGX.out; have := HW01.out; have := HSZ0.out; omega)).cell 2; have y2 : w9.frozen? ⟨gx, 2, none⟩ = false := (HX.out.gw HG.out (show gx ≠ W0.heap.size by have := HGX.out; have := HW01.out; have := HSZ0.out; omega)).frozen 2; have HXN := Lib.hid (show CB 72 (w9.setCell ⟨gx, 2, none⟩ (.string O)) gx (simC 3 T1 O ⟨#[]⟩ false 0 0 (.slice none 0 0)) from CB.simOp (HX.out.gw HG.out (show gx ≠ W0.heap.size by have := HGX.out; have := HW01.out; have := HSZ0.out; omega)) _); have HZN := Lib.hid ((HZ.out.gw HG.out HNE.out).far (p := ⟨gx, 2, none⟩) (show w.heap.size ≠ gx by have := HGX.out; have := HW01.out; have := HSZ0.out; omega) (.string O)); have HSN := Lib.hid (HS.out.far (p := ⟨gx, 2, none⟩) HGX.out (.string O)); have HBN := Lib.hid ((HG.out.toBelow HB.out HLE.out (Nat.le_refl _)).setCell (p := ⟨gx, 2, none⟩) (show w.heap.size ≤ gx by have := HGX.out; have := HW01.out; have := HSZ0.out; omega) (.string O)); have HGN := Lib.hid (Gw.refl W0.heap.size (w9.setCell ⟨gx, 2, none⟩ (.string O))); clear HX HZ HS HB HG; have HX := HXN; have HZ := HZN; have HS := HSN; have HB := HBN; have HG := HGN; clear HXN HZN HSN HBN HGN))
  clear x2 y2
  generalize World.setCell _ _ _ = W3 at *
  go_upto_region 17 with (first | (go_at_call 37; (first | refine (HW4.out _ _ HS.out).mono ?_); rintro e w9 ⟨⟨c, rfl⟩, hs⟩; replace HG := Lib.hid (HG.out.trans hs.gw); replace HS := Lib.hid (HS.out.since hs); clear hs) | (go_at_call 60; refine (HK5.out _ _ HS.out).mono ?_; rintro e w9 ⟨rfl, hb⟩; replace HG := Lib.hid (HG.out.belowS hb); replace HS := Lib.hid (HS.out.below hb); clear hb) | (go_at_call 78; refine (HT5.out _ _ HS.out).mono ?_; rintro e w9 ⟨⟨u, rfl, hu⟩, hs⟩; simp only [Nd.tok] at *; replace HG := Lib.hid (HG.out.trans hs.gw); replace HS := Lib.hid (HS.out.since hs); clear hs hu; have x3 : w9.cell? ⟨gx, 3, none⟩ = some (.string ⟨#[]⟩) := (HX.out.gw HG.out (show gx ≠ W0.heap.size by have := HGX.out; have := HW01.out; have := HSZ0.out; omega)).cell 3; have y3 : w9.frozen? ⟨gx, 3, none⟩ = false := (HX.out.gw HG.out (show gx ≠ W0.heap.size by have := HGX.out; have := HW01.out; have := HSZ0.out; omega)).frozen 3; have HXN := Lib.hid (show CB 72 (w9.setCell ⟨gx, 3, none⟩ (.string V)) gx (simC 3 T1 O V false 0 0 (.slice none 0 0)) from CB.simVal (HX.out.gw HG.out (show gx ≠ W0.heap.size by have := HGX.out; have := HW01.out; have := HSZ0.out; omega)) _); have HZN := Lib.hid ((HZ.out.gw HG.out HNE.out).far (p := ⟨gx, 3, none⟩) (show w.heap.size ≠ gx by have := HGX.out; have := HW01.out; have := HSZ0.out; omega) (.string V)); have HSN := Lib.hid (HS.out.far (p := ⟨gx, 3, none⟩) HGX.out (.string V)); have HBN := Lib.hid ((HG.out.toBelow HB.out HLE.out (Nat.le_refl _)).setCell (p := ⟨gx, 3, none⟩) (show w.heap.size ≤ gx by have := HGX.out; have := HW01.out; have := HSZ0.out; omega) (.string V)); have HGN := Lib.hid (Gw.refl W0.heap.size (w9.setCell ⟨gx, 3, none⟩ (.string V))); clear HX HZ HS HB HG; have HX := HXN; have HZ := HZN; have HS := HSN; have HB := HBN; have HG := HGN; clear HXN HZN HSN HBN HGN))
  clear x3 y3
  generalize World.setCell _ _ _ = W4 at *
  go_upto_region 22 with (first | (go_at_call 37; (first | refine (HW6.out _ _ HS.out).mono ?_); rintro e w9 ⟨⟨c, rfl⟩, hs⟩; replace HG := Lib.hid (HG.out.trans hs.gw); replace HS := Lib.hid (HS.out.since hs); clear hs) | (go_at_call 40; (first | refine (HE7.out _ _ HS.out).mono ?_); rintro e w9 ⟨rfl, hb⟩; replace HG := Lib.hid (HG.out.belowS hb); replace HS := Lib.hid (HS.out.below hb); clear hb) | (go_at_call 77; (first | refine (HL7.out _ _ HS.out).mono ?_); rintro e w9 ⟨rfl, hs⟩; replace HG := Lib.hid (HG.out.trans hs.gw); replace HS := Lib.hid (HS.out.since hs); clear hs; have x4 : w9.cell? ⟨gx, 4, none⟩ = some (.bool false) := (HX.out.gw HG.out (show gx ≠ W0.heap.size by have := HGX.out; have := HW01.out; have := HSZ0.out; omega)).cell 4; have y4 : w9.frozen? ⟨gx, 4, none⟩ = false := (HX.out.gw HG.out (show gx ≠ W0.heap.size by have := HGX.out; have := HW01.out; have := HSZ0.out; omega)).frozen 4; have HXN := Lib.hid (show CB 72 (w9.setCell ⟨gx, 4, none⟩ (.bool true)) gx (simC 3 T1 O V true 0 0 (.slice none 0 0)) from CB.simFold (HX.out.gw HG.out (show gx ≠ W0.heap.size by have := HGX.out; have := HW01.out; have := HSZ0.out; omega)) _); have HZN := Lib.hid ((HZ.out.gw HG.out HNE.out).far (p := ⟨gx, 4, none⟩) (show w.heap.size ≠ gx by have := HGX.out; have := HW01.out; have := HSZ0.out; omega) (.bool true)); have HSN := Lib.hid (HS.out.far (p := ⟨gx, 4, none⟩) HGX.out (.bool true)); have HBN := Lib.hid ((HG.out.toBelow HB.out HLE.out (Nat.le_refl _)).setCell (p := ⟨gx, 4, none⟩) (show w.heap.size ≤ gx by have := HGX.out; have := HW01.out; have := HSZ0.out; omega) (.bool true)); have HGN := Lib.hid (Gw.refl W0.heap.size (w9.setCell ⟨gx, 4, none⟩ (.bool true))); clear HX HZ HS HB HG; have HX := HXN; have HZ := HZN; have HS := HSN; have HB := HBN; have HG := HGN; clear HXN HZN HSN HBN HGN))
  clear x4 y4
  generalize World.setCell _ _ _ = W5 at *
  have HZD := Lib.hid (show CB 72 W5.drew w.heap.size simZ from HZ.out)
  have HSD := Lib.hid HS.out.drew
  have HBD := Lib.hid HB.out.drew
  have hne1 : gx ≠ w.heap.size := by have := HGX.out; have := HW01.out; have := HSZ0.out; omega
  refine wp_region_held_drew (S := fun W => CB 72 W gx (simC 3 T1 O V true 0 0 (.slice none 0 0))) (by kernel_rfl) (show CB 72 W5.drew gx (simC 3 T1 O V true 0 0 (.slice none 0 0)) from HX.out) (fun hHeld => ?_)
  generalize W5.drew = W6 at *
  refine wTake 0 (v := ?_) rfl (Or.inl ⟨by rfl, ?_⟩) ?_
  rotate_left
  · intro W hSw
    have x0 : W.cell? ⟨gx, 0, none⟩ = some (.int .i64 3) := hSw.cell 0
    have x1 : W.cell? ⟨gx, 1, none⟩ = some (.string T1) := hSw.cell 1
    have x2 : W.cell? ⟨gx, 2, none⟩ = some (.string O) := hSw.cell 2
    have x3 : W.cell? ⟨gx, 3, none⟩ = some (.string V) := hSw.cell 3
    have x4 : W.cell? ⟨gx, 4, none⟩ = some (.bool true) := hSw.cell 4
    have x5 : W.cell? ⟨gx, 5, none⟩ = some (.int .i64 0) := hSw.cell 5
    have x6 : W.cell? ⟨gx, 6, none⟩ = some (.int .i64 0) := hSw.cell 6
    have x7 : W.cell? ⟨gx, 7, none⟩ = some (.slice none 0 0) := hSw.cell 7
    go_simp
    all_goals with_reducible rfl
  try simp only [gA, gB, gC, gD, gE, gF, gG]
  refine wTake 1 (v := ?_) rfl (Or.inl ⟨by rfl, ?_⟩) ?_
  rotate_left
  · intro W hSw
    go_simp
    all_goals with_reducible rfl
  try simp only [gA, gB, gC, gD, gE, gF, gG]
  refine wTake 2 (v := ?_) rfl (Or.inl ⟨by rfl, ?_⟩) ?_
  rotate_left
  · intro W hSw
    go_simp
    all_goals with_reducible rfl
  try simp only [gA, gB, gC, gD, gE, gF, gG]
  refine wTake 3 (v := ?_) rfl (Or.inl ⟨by rfl, ?_⟩) ?_
  rotate_left
  · intro W hSw
    go_simp
    all_goals with_reducible rfl
  try simp only [gA, gB, gC, gD, gE, gF, gG]
  refine wpAnyH_ready (rs := [4]) (by kernel_rfl) (by simp) ?_
  refine AllReadyH.cons (o := _) rfl (fun K hK => ?_) AllReadyH.nil
  simp only [List.getElem_toArray, List.getElem_cons_zero, List.getElem_cons_succ]
  rw [if_neg (by exact Bool.false_ne_true)]
  refine hK.out _ _ hHeld (fun hHeld => ?_)
  clear hK K
  try simp only [gA, gB, gC, gD, gE, gF, gG]
  refine wTake 5 (v := ?_) rfl (Or.inl ⟨by rfl, ?_⟩) ?_
  rotate_left
  · intro W hSw
    go_simp
    all_goals with_reducible rfl
  try simp only [gA, gB, gC, gD, gE, gF, gG]
  refine wpAnyH_ready (rs := [6]) (by kernel_rfl) (by simp) ?_
  refine AllReadyH.cons (o := _) rfl (fun K hK => ?_) AllReadyH.nil
  simp only [List.getElem_toArray, List.getElem_cons_zero, List.getElem_cons_succ]
  rw [if_pos (by rfl)]
  refine wp_store_mid 72 (.tmp 2) (.tmp 53) rfl w.heap.size 0 (simC 3 T1 O V true 0 0 (.slice none 0 0)) rfl rfl (cbW_there HZD.out (n := 8) rfl) sim_size (sim_one _ _ _ _ _ _ _ _ _ _) ?_
  have HFF := Lib.hid (show CB 72 _ w.heap.size (simC 3 T1 O V true 0 0 (.slice none 0 0)) from CB.sim HZD.out)
  have HBF := Lib.hid (setsW_below (Nat.le_refl _) (simC 3 T1 O V true 0 0 (.slice none 0 0)).toList 0 _ HBD.out)
  have hS2 := CB.farW hne1 (simC 3 T1 O V true 0 0 (.slice none 0 0)).toList 0 _ hHeld
  clear hHeld
  generalize World.setCells _ w.heap.size 0 _ = W7 at *
  refine hK.out _ _ hS2 (fun hHeld => ?_)
  clear hK K
  try simp only [gA, gB, gC, gD, gE, gF, gG]
  refine wTake 7 (v := ?_) rfl (Or.inl ⟨by rfl, ?_⟩) ?_
  rotate_left
  · intro W hSw
    go_simp
    all_goals with_reducible rfl
  try simp only [gA, gB, gC, gD, gE, gF, gG]
  refine wpAnyH_done (by kernel_rfl) ?_ _
  go_wp2
  exact bodyPost_ret (v := .tuple #[.agg (simC 3 T1 O V true 0 0 (.slice none 0 0)), .bool false]) (results_cellT (by rfl) _ _ w.heap.size _ _ _ _ _ (by rfl) (by rfl) HFF.out Tryz.underlying72 (by rfl) sim_size) rfl ⟨simPost_no _ _ _ _ _ _ _ _ _ _ _, HBF.out⟩
theorem sattr_G5 {P : Nat → Prop} {w : World} {v : Value} {l r1 : List Nd} {T1 : ByteArray} {ok1 : Bool} {r2 r3 : List Nd} {e3 : Bool} {O : ByteArray} {ok2 : Bool} {r4 r5 : List Nd} {K5 : Int} {V : ByteArray} {r6 r7 : List Nd} {e7 : Bool} {T7 : ByteArray} {ok7 : Bool} {r8 : List Nd} {e8 : Bool} (A : AttrSt l r1 T1 ok1 r2 r3 e3 O ok2 r4 r5 K5 V r6 r7 e7 T7 ok7 r8 e8) (h : RdN w P v l) (hl : szL l ≤ 100000000) (hx : txD l) (q1 : ok1 = true) (q3 : e3 = false) (q4 : ok2 = true) (q5 : K5 = 5) (q7 : e7 = false) (q8 : (T7.toList == [105]) = true) {R : Option SmD} (hR : (if e8 = true then some (.mk 3 T1 O V true 0 0 []) else none) = R) :
    Calls Tryz.prog 80 #[v] w fun e w' => SimPost (fun g => w.heap.size ≤ g) R e w' ∧ Below w.heap.size w w' := by
  subst q1 q3 q4 q5
  subst q7
  have HSP := Lib.hid (fun (Q : Nat → Prop) (w' : World) => attr_row 3 T1 O V true e8 Q (w' := w'))
  rw [hR] at HSP
  clear hR
  obtain ⟨HB, HZ, HG, hsz0, hszw, hsz1⟩ := attr_pre w v
  have HS0 := SR.start (h.under ((Below.refl w.heap.size w).alloc (Nat.le_refl _) (.cells simZ 72)) (Nat.le_refl _)) hl 0
  obtain ⟨a, vc, rfl, _⟩ := h.shape
  generalize (fun k => P k ∧ k < (w.alloc (.cells simZ 72)).heap.size) = Q at HS0
  have HS := Lib.hid HS0
  clear HS0 h
  obtain ⟨h1, h2, h3, h3e, h4, h4q, h5, h5k, h5v, h6, h7, h7e, h8, h8e⟩ := A
  generalize hgb : (w.alloc (.cells simZ 72)).heap.size = gb at *
  have HW0 := Lib.hid (aW (Q := Q) (gb := gb) (v := .slice a l.length vc) (l := l) h1)
  have HW2 := Lib.hid (aW (Q := Q) (gb := gb) (v := .slice a l.length vc) (l := l) h3)
  have HW4 := Lib.hid (aW (Q := Q) (gb := gb) (v := .slice a l.length vc) (l := l) h5)
  have HW6 := Lib.hid (aW (Q := Q) (gb := gb) (v := .slice a l.length vc) (l := l) h7)
  have HL1 := Lib.hid (aL (Q := Q) (gb := gb) (v := .slice a l.length vc) hx h2)
  have HL7 := Lib.hid (aL (Q := Q) (gb := gb) (v := .slice a l.length vc) hx h8)
  have HE3 := Lib.hid (aE (Q := Q) (gb := gb) (v := .slice a l.length vc) (l := l) h3e)
  have HE7 := Lib.hid (aE (Q := Q) (gb := gb) (v := .slice a l.length vc) (l := l) h7e)
  have HE8 := Lib.hid (aE (Q := Q) (gb := gb) (v := .slice a l.length vc) (l := l) h8e)
  have HO3 := Lib.hid (aO (Q := Q) (gb := gb) (v := .slice a l.length vc) hx h4 h4q)
  have HK5 := Lib.hid (fun (W W' : World) (hs : SR Q W' gb (.slice a l.length vc) l 0 r5 W) => (kind_0 hs).mono (R' := fun e w' => e = .returned (.int .i64 5) ∧ Below W.heap.size W w') (fun e w' ⟨h1', h2'⟩ => ⟨by rw [h5k] at h1'; exact h1', h2'⟩))
  have hr5 : 0 < r5.length := kind_pos h5k (by omega)
  have HT5 := Lib.hid (aT (Q := Q) (gb := gb) (v := .slice a l.length vc) (l := l) hr5 h6)
  generalize hnd : atK r5 0 = nd at *
  obtain ⟨t, k⟩ := nd
  replace h5v : t.text = V := h5v
  have hf1 := fld_tok t
  have hf2 := fld_text t
  rw [h5v] at hf1 hf2
  clear hnd
  clear h1 h2 h3 h3e h4 h4q h5 h5k h5v h6 h7 h7e h8 h8e hl hx
  have HSZ0 := Lib.hid hsz0
  have HW01 := Lib.hid hsz1
  have HSZW := Lib.hid hszw
  have HNE : Hid (w.heap.size ≠ gb) := by show _ ≠ _; omega
  have HLE : Hid (w.heap.size ≤ gb) := by show _ ≤ _; omega
  clear hsz0 hsz1 hszw
  subst hgb
  generalize l.length = NN at *
  go_enter Tryz.func80, Tryz.ntmps80
  go_upto_region 1 with fail
  generalize w.alloc (.cells simZ 72) = W0 at *
  go_upto_region 2 with fail
  generalize W0.alloc (.cells _ 90) = W1 at *
  go_upto_region 7 with (first | (go_at_call 37; (first | refine (HW0.out _ _ HS.out).mono ?_); rintro e w9 ⟨⟨c, rfl⟩, hs⟩; replace HG := Lib.hid (HG.out.trans hs.gw); replace HS := Lib.hid (HS.out.since hs); clear hs) | (go_at_call 77; (first | refine (HL1.out _ _ HS.out).mono ?_); rintro e w9 ⟨rfl, hs⟩; replace HG := Lib.hid (HG.out.trans hs.gw); replace HS := Lib.hid (HS.out.since hs); clear hs; have hbn := (Below.refl w9.heap.size w9).alloc (Nat.le_refl _) (.cells (simC 3 T1 ⟨#[]⟩ ⟨#[]⟩ false 0 0 (.slice none 0 0)) 72); have HX := Lib.hid (CB.new (T := 72) w9 (simC 3 T1 ⟨#[]⟩ ⟨#[]⟩ false 0 0 (.slice none 0 0))); have HGX := Lib.hid (show W1.heap.size ≤ w9.heap.size from HG.out.size); replace HZ := Lib.hid ((HZ.out.gw HG.out HNE.out).alloc (.cells (simC 3 T1 ⟨#[]⟩ ⟨#[]⟩ false 0 0 (.slice none 0 0)) 72)); replace HB := Lib.hid ((HG.out.toBelow HB.out HLE.out (Nat.le_refl _)).alloc (Nat.le_trans HSZW.out HG.out.size) (.cells (simC 3 T1 ⟨#[]⟩ ⟨#[]⟩ false 0 0 (.slice none 0 0)) 72)); replace HS := Lib.hid (HS.out.below hbn); replace HG := Lib.hid (Gw.refl W0.heap.size (w9.alloc (.cells (simC 3 T1 ⟨#[]⟩ ⟨#[]⟩ false 0 0 (.slice none 0 0)) 72))); clear hbn))
  generalize w9.alloc (.cells _ 72) = W2 at *
  generalize w9.heap.size = gx at *
  have hgx := HGX.out
  go_upto_region 11 with (first | (go_at_call 37; (first | refine (HW2.out _ _ HS.out).mono ?_); rintro e w9 ⟨⟨c, rfl⟩, hs⟩; replace HG := Lib.hid (HG.out.trans hs.gw); replace HS := Lib.hid (HS.out.since hs); clear hs) | (go_at_call 40; (first | refine (HE3.out _ _ HS.out).mono ?_); rintro e w9 ⟨rfl, hb⟩; replace HG := Lib.hid (HG.out.belowS hb); replace HS := Lib.hid (HS.out.below hb); clear hb) | (go_at_call 87; refine (HO3.out _ _ HS.out).mono ?_; rintro e w9 ⟨rfl, hs⟩; replace HG := Lib.hid (HG.out.trans hs.gw); replace HS := Lib.hid (HS.out.since hs); clear hs; have x2 : w9.cell? ⟨gx, 2, none⟩ = some (.string ⟨#[]⟩) := (HX.out.gw HG.out (show gx ≠ W0.heap.size by have := HGX.out; have := HW01.out; have := HSZ0.out; omega)).cell 2; have y2 : w9.frozen? ⟨gx, 2, none⟩ = false := (HX.out.gw HG.out (show gx ≠ W0.heap.size by have := HGX.out; have := HW01.out; have := HSZ0.out; omega)).frozen 2; have HXN := Lib.hid (show CB 72 (w9.setCell ⟨gx, 2, none⟩ (.string O)) gx (simC 3 T1 O ⟨#[]⟩ false 0 0 (.slice none 0 0)) from CB.simOp (HX.out.gw HG.out (show gx ≠ W0.heap.size by have := HGX.out; have := HW01.out; have := HSZ0.out; omega)) _); have HZN := Lib.hid ((HZ.out.gw HG.out HNE.out).far (p := ⟨gx, 2, none⟩) (show w.heap.size ≠ gx by have := HGX.out; have := HW01.out; have := HSZ0.out; omega) (.string O)); have HSN := Lib.hid (HS.out.far (p := ⟨gx, 2, none⟩) HGX.out (.string O)); have HBN := Lib.hid ((HG.out.toBelow HB.out HLE.out (Nat.le_refl _)).setCell (p := ⟨gx, 2, none⟩) (show w.heap.size ≤ gx by have := HGX.out; have := HW01.out; have := HSZ0.out; omega) (.string O)); have HGN := Lib.hid (Gw.refl W0.heap.size (w9.setCell ⟨gx, 2, none⟩ (.string O))); clear HX HZ HS HB HG; have HX := HXN; have HZ := HZN; have HS := HSN; have HB := HBN; have HG := HGN; clear HXN HZN HSN HBN HGN))
  clear x2 y2
  generalize World.setCell _ _ _ = W3 at *
  go_upto_region 17 with (first | (go_at_call 37; (first | refine (HW4.out _ _ HS.out).mono ?_); rintro e w9 ⟨⟨c, rfl⟩, hs⟩; replace HG := Lib.hid (HG.out.trans hs.gw); replace HS := Lib.hid (HS.out.since hs); clear hs) | (go_at_call 60; refine (HK5.out _ _ HS.out).mono ?_; rintro e w9 ⟨rfl, hb⟩; replace HG := Lib.hid (HG.out.belowS hb); replace HS := Lib.hid (HS.out.below hb); clear hb) | (go_at_call 78; refine (HT5.out _ _ HS.out).mono ?_; rintro e w9 ⟨⟨u, rfl, hu⟩, hs⟩; simp only [Nd.tok] at *; replace HG := Lib.hid (HG.out.trans hs.gw); replace HS := Lib.hid (HS.out.since hs); clear hs hu; have x3 : w9.cell? ⟨gx, 3, none⟩ = some (.string ⟨#[]⟩) := (HX.out.gw HG.out (show gx ≠ W0.heap.size by have := HGX.out; have := HW01.out; have := HSZ0.out; omega)).cell 3; have y3 : w9.frozen? ⟨gx, 3, none⟩ = false := (HX.out.gw HG.out (show gx ≠ W0.heap.size by have := HGX.out; have := HW01.out; have := HSZ0.out; omega)).frozen 3; have HXN := Lib.hid (show CB 72 (w9.setCell ⟨gx, 3, none⟩ (.string V)) gx (simC 3 T1 O V false 0 0 (.slice none 0 0)) from CB.simVal (HX.out.gw HG.out (show gx ≠ W0.heap.size by have := HGX.out; have := HW01.out; have := HSZ0.out; omega)) _); have HZN := Lib.hid ((HZ.out.gw HG.out HNE.out).far (p := ⟨gx, 3, none⟩) (show w.heap.size ≠ gx by have := HGX.out; have := HW01.out; have := HSZ0.out; omega) (.string V)); have HSN := Lib.hid (HS.out.far (p := ⟨gx, 3, none⟩) HGX.out (.string V)); have HBN := Lib.hid ((HG.out.toBelow HB.out HLE.out (Nat.le_refl _)).setCell (p := ⟨gx, 3, none⟩) (show w.heap.size ≤ gx by have := HGX.out; have := HW01.out; have := HSZ0.out; omega) (.string V)); have HGN := Lib.hid (Gw.refl W0.heap.size (w9.setCell ⟨gx, 3, none⟩ (.string V))); clear HX HZ HS HB HG; have HX := HXN; have HZ := HZN; have HS := HSN; have HB := HBN; have HG := HGN; clear HXN HZN HSN HBN HGN))
  clear x3 y3
  generalize World.setCell _ _ _ = W4 at *
  go_upto_region 22 with (first | (go_at_call 37; (first | refine (HW6.out _ _ HS.out).mono ?_); rintro e w9 ⟨⟨c, rfl⟩, hs⟩; replace HG := Lib.hid (HG.out.trans hs.gw); replace HS := Lib.hid (HS.out.since hs); clear hs) | (go_at_call 40; (first | refine (HE7.out _ _ HS.out).mono ?_); rintro e w9 ⟨rfl, hb⟩; replace HG := Lib.hid (HG.out.belowS hb); replace HS := Lib.hid (HS.out.below hb); clear hb) | (go_at_call 77; (first | refine (HL7.out _ _ HS.out).mono ?_); rintro e w9 ⟨rfl, hs⟩; replace HG := Lib.hid (HG.out.trans hs.gw); replace HS := Lib.hid (HS.out.since hs); clear hs; have x4 : w9.cell? ⟨gx, 4, none⟩ = some (.bool false) := (HX.out.gw HG.out (show gx ≠ W0.heap.size by have := HGX.out; have := HW01.out; have := HSZ0.out; omega)).cell 4; have y4 : w9.frozen? ⟨gx, 4, none⟩ = false := (HX.out.gw HG.out (show gx ≠ W0.heap.size by have := HGX.out; have := HW01.out; have := HSZ0.out; omega)).frozen 4; have HXN := Lib.hid (show CB 72 (w9.setCell ⟨gx, 4, none⟩ (.bool true)) gx (simC 3 T1 O V true 0 0 (.slice none 0 0)) from CB.simFold (HX.out.gw HG.out (show gx ≠ W0.heap.size by have := HGX.out; have := HW01.out; have := HSZ0.out; omega)) _); have HZN := Lib.hid ((HZ.out.gw HG.out HNE.out).far (p := ⟨gx, 4, none⟩) (show w.heap.size ≠ gx by have := HGX.out; have := HW01.out; have := HSZ0.out; omega) (.bool true)); have HSN := Lib.hid (HS.out.far (p := ⟨gx, 4, none⟩) HGX.out (.bool true)); have HBN := Lib.hid ((HG.out.toBelow HB.out HLE.out (Nat.le_refl _)).setCell (p := ⟨gx, 4, none⟩) (show w.heap.size ≤ gx by have := HGX.out; have := HW01.out; have := HSZ0.out; omega) (.bool true)); have HGN := Lib.hid (Gw.refl W0.heap.size (w9.setCell ⟨gx, 4, none⟩ (.bool true))); clear HX HZ HS HB HG; have HX := HXN; have HZ := HZN; have HS := HSN; have HB := HBN; have HG := HGN; clear HXN HZN HSN HBN HGN))
  clear x4 y4
  generalize World.setCell _ _ _ = W5 at *
  have HZD := Lib.hid (show CB 72 W5.drew w.heap.size simZ from HZ.out)
  have HSD := Lib.hid HS.out.drew
  have HBD := Lib.hid HB.out.drew
  have hne1 : gx ≠ w.heap.size := by have := HGX.out; have := HW01.out; have := HSZ0.out; omega
  refine wp_region_held_drew (S := fun W => CB 72 W gx (simC 3 T1 O V true 0 0 (.slice none 0 0))) (by kernel_rfl) (show CB 72 W5.drew gx (simC 3 T1 O V true 0 0 (.slice none 0 0)) from HX.out) (fun hHeld => ?_)
  generalize W5.drew = W6 at *
  refine wTake 0 (v := ?_) rfl (Or.inl ⟨by rfl, ?_⟩) ?_
  rotate_left
  · intro W hSw
    have x0 : W.cell? ⟨gx, 0, none⟩ = some (.int .i64 3) := hSw.cell 0
    have x1 : W.cell? ⟨gx, 1, none⟩ = some (.string T1) := hSw.cell 1
    have x2 : W.cell? ⟨gx, 2, none⟩ = some (.string O) := hSw.cell 2
    have x3 : W.cell? ⟨gx, 3, none⟩ = some (.string V) := hSw.cell 3
    have x4 : W.cell? ⟨gx, 4, none⟩ = some (.bool true) := hSw.cell 4
    have x5 : W.cell? ⟨gx, 5, none⟩ = some (.int .i64 0) := hSw.cell 5
    have x6 : W.cell? ⟨gx, 6, none⟩ = some (.int .i64 0) := hSw.cell 6
    have x7 : W.cell? ⟨gx, 7, none⟩ = some (.slice none 0 0) := hSw.cell 7
    go_simp
    all_goals with_reducible rfl
  try simp only [gA, gB, gC, gD, gE, gF, gG]
  refine wTake 1 (v := ?_) rfl (Or.inl ⟨by rfl, ?_⟩) ?_
  rotate_left
  · intro W hSw
    go_simp
    all_goals with_reducible rfl
  try simp only [gA, gB, gC, gD, gE, gF, gG]
  refine wTake 2 (v := ?_) rfl (Or.inl ⟨by rfl, ?_⟩) ?_
  rotate_left
  · intro W hSw
    go_simp
    all_goals with_reducible rfl
  try simp only [gA, gB, gC, gD, gE, gF, gG]
  refine wTake 3 (v := ?_) rfl (Or.inl ⟨by rfl, ?_⟩) ?_
  rotate_left
  · intro W hSw
    go_simp
    all_goals with_reducible rfl
  try simp only [gA, gB, gC, gD, gE, gF, gG]
  refine wpAnyH_ready (rs := [4]) (by kernel_rfl) (by simp) ?_
  refine AllReadyH.cons (o := _) rfl (fun K hK => ?_) AllReadyH.nil
  simp only [List.getElem_toArray, List.getElem_cons_zero, List.getElem_cons_succ]
  rw [if_pos (by rfl)]
  go_simp
  refine (HE8.out _ _ HSD.out).mono ?_
  rintro e w9 ⟨rfl, hb⟩
  have hS1 := CB.below hHeld hb hHeld.lt
  replace HZD := Lib.hid (HZD.out.below hb HZD.out.lt)
  replace HBD := Lib.hid (belowU HBD.out hb)
  clear hHeld hb
  go_simp
  refine hK.out _ _ hS1 (fun hHeld => ?_)
  clear hK K
  try simp only [gA, gB, gC, gD, gE, gF, gG]
  refine wTake 5 (v := ?_) rfl (Or.inl ⟨by rfl, ?_⟩) ?_
  rotate_left
  · intro W hSw
    go_simp
    all_goals with_reducible rfl
  try simp only [gA, gB, gC, gD, gE, gF, gG]
  refine wpAnyH_ready (rs := [6]) (by kernel_rfl) (by simp) ?_
  refine AllReadyH.cons (o := _) rfl (fun K hK => ?_) AllReadyH.nil
  simp only [List.getElem_toArray, List.getElem_cons_zero, List.getElem_cons_succ]
  rw [if_pos (by rfl)]
  refine wp_store_mid 72 (.tmp 2) (.tmp 53) rfl w.heap.size 0 (simC 3 T1 O V true 0 0 (.slice none 0 0)) rfl rfl (cbW_there HZD.out (n := 8) rfl) sim_size (sim_one _ _ _ _ _ _ _ _ _ _) ?_
  have HFF := Lib.hid (show CB 72 _ w.heap.size (simC 3 T1 O V true 0 0 (.slice none 0 0)) from CB.sim HZD.out)
  have HBF := Lib.hid (setsW_below (Nat.le_refl _) (simC 3 T1 O V true 0 0 (.slice none 0 0)).toList 0 _ HBD.out)
  have hS2 := CB.farW hne1 (simC 3 T1 O V true 0 0 (.slice none 0 0)).toList 0 _ hHeld
  clear hHeld
  generalize World.setCells _ w.heap.size 0 _ = W7 at *
  refine hK.out _ _ hS2 (fun hHeld => ?_)
  clear hK K
  try simp only [gA, gB, gC, gD, gE, gF, gG]
  refine wTake 7 (v := ?_) rfl (Or.inl ⟨by rfl, ?_⟩) ?_
  rotate_left
  · intro W hSw
    go_simp
    all_goals with_reducible rfl
  try simp only [gA, gB, gC, gD, gE, gF, gG]
  refine wpAnyH_done (by kernel_rfl) ?_ _
  go_wp2
  exact bodyPost_ret (v := .tuple #[.agg (simC 3 T1 O V true 0 0 (.slice none 0 0)), .bool e8]) (results_cellT (by rfl) _ _ w.heap.size _ _ _ _ _ (by rfl) (by rfl) HFF.out Tryz.underlying72 (by rfl) sim_size) rfl ⟨HSP.out _ _, HBF.out⟩
theorem attr_of {l r1 : List Nd} {T1 : ByteArray} {ok1 : Bool} {r2 r3 : List Nd} {e3 : Bool} {O : ByteArray} {ok2 : Bool} {r4 r5 : List Nd} {K5 : Int} {V : ByteArray} {r6 r7 : List Nd} {e7 : Bool} {T7 : ByteArray} {ok7 : Bool} {r8 : List Nd} {e8 : Bool} (A : AttrSt l r1 T1 ok1 r2 r3 e3 O ok2 r4 r5 K5 V r6 r7 e7 T7 ok7 r8 e8) :
    attrS l = if ok1 = true then (if e3 = true then some (.mk 3 T1 ⟨#[]⟩ ⟨#[]⟩ false 0 0 []) else if ok2 = true then (if (K5 == 1 || K5 == 5) = true then (if e7 = true then some (.mk 3 T1 O V false 0 0 []) else if (T7.toList == [105] && e8) = true then some (.mk 3 T1 O V true 0 0 []) else none) else none) else none) else none := by
  obtain ⟨h1, h2, h3, h3e, h4, h4q, h5, h5k, h5v, h6, h7, h7e, h8, h8e⟩ := A
  rw [attrS_steps, h1, h2]
  simp only
  rw [h3, h3e, h4, h4q, h5]
  unfold attrVal
  rw [h5k, h5v, h6, h7, h7e, h8]
  simp only
  rw [h8e]
theorem sattr_any : AttrOk := by
 intro P w v l h hl hx _
 obtain ⟨r1, h1⟩ : ∃ x, whiteR l = x := ⟨_, rfl⟩
 obtain ⟨⟨T1, ok1, r2⟩, h2⟩ : ∃ x, lowerR r1 = x := ⟨_, rfl⟩
 obtain ⟨r3, h3⟩ : ∃ x, whiteR r2 = x := ⟨_, rfl⟩
 obtain ⟨e3, h3e⟩ : ∃ x, r3.isEmpty = x := ⟨_, rfl⟩
 obtain ⟨⟨O, ok2⟩, h4⟩ : ∃ x, opT r3 = x := ⟨_, rfl⟩
 obtain ⟨r4, h4q⟩ : ∃ x, opQ r3 = x := ⟨_, rfl⟩
 obtain ⟨r5, h5⟩ : ∃ x, whiteR r4 = x := ⟨_, rfl⟩
 obtain ⟨K5, h5k⟩ : ∃ x, kindA r5 0 = x := ⟨_, rfl⟩
 obtain ⟨V, h5v⟩ : ∃ x, (atK r5 0).tok.text = x := ⟨_, rfl⟩
 obtain ⟨r6, h6⟩ : ∃ x, r5.tail = x := ⟨_, rfl⟩
 obtain ⟨r7, h7⟩ : ∃ x, whiteR r6 = x := ⟨_, rfl⟩
 obtain ⟨e7, h7e⟩ : ∃ x, r7.isEmpty = x := ⟨_, rfl⟩
 obtain ⟨⟨T7, ok7, r8⟩, h8⟩ : ∃ x, lowerR r7 = x := ⟨_, rfl⟩
 obtain ⟨e8, h8e⟩ : ∃ x, r8.isEmpty = x := ⟨_, rfl⟩
 have A : AttrSt l r1 T1 ok1 r2 r3 e3 O ok2 r4 r5 K5 V r6 r7 e7 T7 ok7 r8 e8 := ⟨h1, h2, h3, h3e, h4, h4q, h5, h5k, h5v, h6, h7, h7e, h8, h8e⟩
 clear h1 h2 h3 h3e h4 h4q h5 h5k h5v h6 h7 h7e h8 h8e
 rw [attr_of A]
 cases q1 : ok1
 · rw [if_neg (by decide)]
   exact sattr_A A h hl hx q1
 · rw [if_pos rfl]
   cases q3 : e3
   · rw [if_neg (by decide)]
     cases q4 : ok2
     · rw [if_neg (by decide)]
       exact sattr_C A h hl hx q1 q3 q4
     · rw [if_pos rfl]
       cases n1 : (K5 == 1)
       · cases n5 : (K5 == 5)
         · rw [if_neg (by decide)]
           exact sattr_D A h hl hx q1 q3 q4 n1 n5
         · rw [if_pos (by rfl)]
           cases q7 : e7
           · rw [if_neg (by decide)]
             cases q8 : (T7.toList == [105])
             · rw [if_neg (by rw [Bool.false_and]; decide)]
               exact sattr_F5 A h hl hx q1 q3 q4 (eq_of_beq n5) q7 q8
             · rw [Bool.true_and]
               exact sattr_G5 A h hl hx q1 q3 q4 (eq_of_beq n5) q7 q8 rfl
           · rw [if_pos rfl]
             exact sattr_E5 A h hl hx q1 q3 q4 (eq_of_beq n5) q7
       · rw [if_pos (by rfl)]
         cases q7 : e7
         · rw [if_neg (by decide)]
           cases q8 : (T7.toList == [105])
           · rw [if_neg (by rw [Bool.false_and]; decide)]
             exact sattr_F1 A h hl hx q1 q3 q4 (eq_of_beq n1) q7 q8
           · rw [Bool.true_and]
             exact sattr_G1 A h hl hx q1 q3 q4 (eq_of_beq n1) q7 q8 rfl
         · rw [if_pos rfl]
           exact sattr_E1 A h hl hx q1 q3 q4 (eq_of_beq n1) q7
   · rw [if_pos rfl]
     exact sattr_B A h hl hx q1 q3
theorem LsG.keep {B k : Nat} {T : TypeId} {w w1 : World} {v : Value} {ks : List (List Value × List Dt)} (h : LsG (fun g => B ≤ g) B T k w v ks) (hk : ∀ g, B ≤ g → g < w.heap.size → w1.heap[g]? = w.heap[g]?) (hs : w.heap.size ≤ w1.heap.size) : LsG (fun g => B ≤ g) B T k w1 v ks := by
 refine ⟨⟨h.row.1, ?_⟩, fun x hx => ⟨(h.ok x hx).1, (h.ok x hx).2.1, fun i h1 h2 => rdG.move (fun b _ hb => hb) (fun b hb hl => hk b hb.1 hl) hs _ _ ((h.ok x hx).2.2 i h1 h2)⟩⟩
 rcases h.row.2 with hn | ⟨g, cap, cur, rfl, hb, hgg, rest⟩
 · exact .inl hn
 · exact .inr ⟨g, cap, cur, rfl, hb, (hk g hb (Array.getElem?_eq_some_iff.1 hgg).1).trans hgg, rest⟩
theorem LsG.far {B k : Nat} {T : TypeId} {w : World} {v : Value} {ks : List (List Value × List Dt)} (h : LsG (fun g => B ≤ g) B T k w v ks) {p : Addr} (hp : p.block < B) (u : Value) : LsG (fun g => B ≤ g) B T k (w.setCell p u) v ks :=
 h.keep (fun g hg _ => heap_setCell_other w p g u (by omega)) (by simp)
theorem LsG.gw {B k b : Nat} {T : TypeId} {w w1 : World} {v : Value} {ks : List (List Value × List Dt)} (h : LsG (fun g => B ≤ g) B T k w v ks) (hG : Gw b w w1) (hb : b < B) : LsG (fun g => B ≤ g) B T k w1 v ks :=
 h.keep (fun g hg hl => hG.block g hl (fun e => by have := Option.some.inj e; omega)) hG.size
theorem smsDt_len (acc : List SmD) : (smsDt acc).length = acc.length := by rw [smsDt_map, List.length_map]
theorem cmsDt_len (acc : List CmD) : (cmsDt acc).length = acc.length := by rw [cmsDt_map, List.length_map]
theorem cxsDt_len (acc : List CxD) : (cxsDt acc).length = acc.length := by rw [cxsDt_map, List.length_map]
theorem simF_no {fn : FnS} {m : Nat} {acc : List SmD} {r : List Nd} (h : atSimpleR r = false) : simF fn (m + 1) acc r = some (acc, r) := by
 rw [simF, if_neg (by rw [h]; decide)]
theorem simF_bad {fn : FnS} {m : Nat} {acc : List SmD} {r : List Nd} (h : atSimpleR r = true) (h2 : (simpleW fn r).1 = none) : simF fn (m + 1) acc r = none := by
 rw [simF, if_pos h]
 generalize simpleW fn r = p at *
 obtain ⟨a, b⟩ := p
 simp only at h2
 subst h2
 rfl
theorem simF_full {fn : FnS} {m : Nat} {acc : List SmD} {r : List Nd} (h : atSimpleR r = true) (h2 : acc.length = 16) : simF fn (m + 1) acc r = none := by
 rw [simF, if_pos h]
 generalize simpleW fn r = p at *
 obtain ⟨a, b⟩ := p
 cases a with
 | none => rfl
 | some s => exact if_pos h2
theorem simF_more {fn : FnS} {m : Nat} {acc : List SmD} {r : List Nd} {s : SmD} (h : atSimpleR r = true) (h2 : (simpleW fn r).1 = some s) (h3 : acc.length ≠ 16) : simF fn (m + 1) acc r = simF fn m (acc ++ [s]) (simpleW fn r).2 := by
 rw [simF, if_pos h]
 generalize simpleW fn r = p at *
 obtain ⟨a, b⟩ := p
 simp only at h2
 subst h2
 exact if_neg h3
theorem atSimple_lt {l : List Nd} {i : Nat} (h : atSimpleR (l.drop i) = true) : i < l.length := by
 have : kindA (l.drop i) 0 ≠ 0 := by
  intro e
  unfold atSimpleR at h
  rw [e] at h
  cases h
 exact kind_lt (n := 0) this
abbrev cmpC (t : ByteArray) (u : Value) : Array Value := #[.string t, u]
abbrev cmpZ : Array Value := cmpC ⟨#[]⟩ (.slice none 0 0)
theorem cmp_size : (Tryz.prog.info? 70).map (·.size) = some 2 := by kernel_rfl
theorem info_sim : (Tryz.prog.info? 72).map (fun i => (i.zero, i.size, i.bytes)) = some (some (.agg simZ), 8, 104) := by kernel_rfl
theorem sim_news (w : World) (k : Int) (n o x : ByteArray) (f : Bool) (a b : Int) (u : Value) (T : TypeId) : ∀ j y, ((simC k n o x f a b u).toList)[j]? = some y → (w.alloc (.cells (simC k n o x f a b u) T)).cell? ((⟨w.heap.size, 0, none⟩ : Addr).add j) = some y :=
 World.news_of_block (cs := simC k n o x f a b u) (heap_alloc_self _ _)
theorem sim_oneL (k : Int) (n o x : ByteArray) (f : Bool) (a b : Int) (p : Option Addr) (m c : Nat) : ∀ u ∈ (simC k n o x f a b (.slice p m c)).toList, u.oneCell' = true := by
 intro u hu
 simp only [List.mem_cons, List.not_mem_nil, or_false] at hu
 rcases hu with rfl | rfl | rfl | rfl | rfl | rfl | rfl | rfl <;> rfl
structure CmI (P : Nat → Prop) (w : World) (b : Nat) (v : Value) (l : List Nd) (dp : Int) (B gc : Nat) (tag : ByteArray) (sv : Value) (ks : List (List Value × List Dt)) (j : Nat) (W : World) : Prop where
  sn : SN P w b v l dp j W
  z : CB 70 W w.heap.size cmpZ
  c : CB 70 W gc (cmpC tag sv)
  row : LsG (fun g => B ≤ g) B 72 8 W sv ks
  tab : TabL W
  o1 : w.heap.size < gc
  o2 : gc < B
  o3 : B ≤ W.heap.size
section
variable {P : Nat → Prop} {w W W' : World} {b : Nat} {v : Value} {l : List Nd} {dp : Int} {B gc : Nat} {tag : ByteArray} {sv : Value} {ks : List (List Value × List Dt)} {j j' : Nat}
theorem CmI.below (h : CmI P w b v l dp B gc tag sv ks j W) (hb : Below W.heap.size W W') : CmI P w b v l dp B gc tag sv ks j W' :=
 ⟨h.sn.below hb, h.z.below hb h.z.lt, h.c.below hb h.c.lt, h.row.below hb, h.tab.below hb, h.o1, h.o2, Nat.le_trans h.o3 hb.size⟩
theorem CmI.drew (h : CmI P w b v l dp B gc tag sv ks j W) : CmI P w b v l dp B gc tag sv ks j W.drew := h.below (Below.refl W.heap.size W).drew
theorem CmI.moved (h : CmI P w b v l dp B gc tag sv ks j W) (hs : SN P W b v l dp j' W') (hb : TabFar b) : CmI P w b v l dp B gc tag sv ks j' W' := by
 have hbo := h.sn.old
 have h1 := h.o1
 have h2 := h.o2
 exact ⟨h.sn.since hs, h.z.gw hs.gw (by omega), h.c.gw hs.gw (by omega), h.row.gw hs.gw (by omega), h.tab.gw hs.gw hb, h.o1, h.o2, Nat.le_trans h.o3 hs.gw.size⟩
theorem CmI.gsv (h : CmI P w b v l dp B gc tag sv ks j W) : ∃ a c, sv = .slice a ks.length c ∧ ks.length ≤ c := row_sl h.row.row
theorem rangeAt_far {g : Nat} {cs : List Value} {p : Addr} {u : Value} (h : W.rangeAt g 0 cs) (hn : g ≠ p.block) : (W.setCell p u).rangeAt g 0 cs :=
 fun j x hx => (World.cell?_of_block (w := W) (w' := W.setCell p u) (a := ⟨g, 0 + j, none⟩) (heap_setCell_other W p g u hn)).trans (h j x hx)
theorem rangeAt_grown {g : Nat} {row : Option Nat} {cs : List Value} (h : W.rangeAt g 0 cs) (hne : 0 < cs.length) (hG : W.grownBy W' row) (hn : some g ≠ row) : W'.rangeAt g 0 cs := by
 have hl : g < W.heap.size := World.block_lt_of_cell? W ⟨g, 0 + 0, none⟩ (h 0 cs[0] (List.getElem?_eq_getElem hne))
 exact fun j v hv => (World.cell?_of_block (w := W) (w' := W') (a := ⟨g, 0 + j, none⟩) (hG.block g hl hn)).trans (h j v hv)
theorem CB.grows {T : TypeId} {g : Nat} {cs : Array Value} {row : Option Nat} (h : CB T W g cs) (hG : W.grownBy W' row) (hn : some g ≠ row) : CB T W' g cs := (hG.block g h.lt hn).trans h
theorem SN.grown {w0 : World} {i : Nat} {row : Option Nat} (h : SN P w0 b v l dp i W) (hG : W.grownBy W' row) (hr : ∀ q, row = some q → w0.heap.size ≤ q) : SN P w0 b v l dp i W' := by
 have hne : ∀ k, k < w0.heap.size → some k ≠ row := fun k hk e => by have := hr k e.symm; omega
 exact ⟨⟨h.wk.blk.grows hG (hne b h.old)⟩, ⟨hG.os.trans h.gw.os, hG.tape.trans h.gw.tape, hG.output.trans h.gw.output, Nat.le_trans h.gw.size hG.size, fun k hk hb => (hG.block k (Nat.lt_of_lt_of_le hk h.gw.size) (hne k hk)).trans (h.gw.block k hk hb)⟩, h.old, h.rd, h.ne, h.lt, h.le, h.ll⟩
theorem CmI.push (h : CmI P w b v l dp B gc tag sv ks j W) (ht : 1 < w.heap.size ∧ 0 < w.heap.size) {sv' : Value} {e : List Value × List Dt} (hG : W.grownBy W' sv.ownBlock) (hrow : LsG (fun g => B ≤ g) B 72 8 W' sv' (ks ++ [e])) :
    CmI P w b v l dp B gc tag sv' (ks ++ [e]) j (W'.setCell ⟨gc, 1, none⟩ sv') := by
  have h1 := h.o1
  have h2 := h.o2
  have h3 := h.o3
  have hne : ∀ k, k < B → some k ≠ sv.ownBlock := fun k hk e => by have := (World.ownsRow.lt h.row.row k e.symm).1; omega
  have hc := (h.c.grows hG (hne gc h2)).set 1 sv'
  have hsn := (h.sn.grown hG fun q hq => by have := (World.ownsRow.lt h.row.row q hq).1; omega).far (p := ⟨gc, 1, none⟩) (by show w.heap.size ≤ gc; omega) sv'
  refine ⟨hsn, (h.z.grows hG (hne _ (by omega))).far (p := ⟨gc, 1, none⟩) (by show w.heap.size ≠ gc; omega) sv', hc, hrow.far (p := ⟨gc, 1, none⟩) h2 sv', ?_, h.o1, h.o2, by simp; exact Nat.le_trans h.o3 hG.size⟩
  have t1 : TabL W' := ⟨rangeAt_grown h.tab.wd (by decide) hG (hne _ (by have := ht.1; omega)), rangeAt_grown h.tab.el (by decide) hG (hne _ (by have := ht.2; omega))⟩
  exact ⟨rangeAt_far t1.wd (by show 1 ≠ gc; have := ht.1; omega), rangeAt_far t1.el (by show 0 ≠ gc; have := ht.2; omega)⟩
end
end Go.Proofs.YtclicjiakkcfcaaGreatDoor
