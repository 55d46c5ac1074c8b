import Derived.Test.YtclicjiakkcfcaaGreatDoorSlT
import Derived.Deep.AppendLies
set_option maxRecDepth 100000
set_option maxHeartbeats 6400000
namespace Go.Proofs.YtclicjiakkcfcaaGreatDoor
open Go.RowKit
theorem comp_none {fn : FnS} {r : List Nd} (h : simF fn 17 [] (tagR r).2 = none) : compW fn r = none := by
 unfold compW
 rw [h]
theorem comp_some {fn : FnS} {r r' : List Nd} {s : List SmD} (h : simF fn 17 [] (tagR r).2 = some (s, r')) : compW fn r = if r'.length < r.length then some (.mk (tagR r).1 s, r') else if 0 < (elementR r).2 then some (.mk starB [], r) else none := by
 unfold compW
 rw [h]
theorem sim_cells {W : World} {Q : Nat → Prop} {L : List CxD} {u : Value} (h : rdG W Q (.sl 3 (cxsDt L)) u) (k : Int) (n o x : ByteArray) (f : Bool) (a b : Int) : CellsOk W Q 8 ((simC k n o x f a b u).toList, (SmD.mk k n o x f a b L).dt) := by
 refine ⟨rfl, SmD.dt_len _, ?_⟩
 intro i h1 h2
 rw [SmD.dt_len] at h2
 simp only [SmD.dt]
 match i, h2 with
 | 0, _ => exact (by rw [rdG] : rdG W Q (.lf (.int .i64 k)) (.int .i64 k))
 | 1, _ => exact (by rw [rdG] : rdG W Q (.lf (.string n)) (.string n))
 | 2, _ => exact (by rw [rdG] : rdG W Q (.lf (.string o)) (.string o))
 | 3, _ => exact (by rw [rdG] : rdG W Q (.lf (.string x)) (.string x))
 | 4, _ => exact (by rw [rdG] : rdG W Q (.lf (.bool f)) (.bool f))
 | 5, _ => exact (by rw [rdG] : rdG W Q (.lf (.int .i64 a)) (.int .i64 a))
 | 6, _ => exact (by rw [rdG] : rdG W Q (.lf (.int .i64 b)) (.int .i64 b))
 | 7, _ => exact h
def CompPost (P : Nat → Prop) (w0 : World) (b : Nat) (v : Value) (l : List Nd) (dp : Int) (i B : Nat) (r : Option (CmD × List Nd)) (e : Ending) (w' : World) : Prop :=
 ∃ t S u, e = .returned (.tuple #[.agg (cmpC t u), .bool r.isSome]) ∧ rdG w' (fun g => B ≤ g) (.sl 8 (smsDt S)) u ∧ (∀ c r', r = some (c, r') → c = .mk t S) ∧ ∃ j, SN P w0 b v l dp j w' ∧ ∀ c r', r = some (c, r') → j ≤ l.length + 1 ∧ i ≤ j ∧ (i < j → i < l.length) ∧ r' = l.drop j
theorem TabL.lt {w : World} (h : TabL w) : 1 < w.heap.size ∧ 0 < w.heap.size :=
 ⟨World.block_lt_of_cell? w ⟨1, 0 + 0, none⟩ (h.wd 0 _ rfl), World.block_lt_of_cell? w ⟨0, 0 + 0, none⟩ (h.el 0 _ rfl)⟩
section
variable {P : Nat → Prop} {w W : World} {b : Nat} {v : Value} {l : List Nd} {dp : Int} {B gc : Nat} {tag : ByteArray} {sv : Value} {ks : List (List Value × List Dt)} {i j : Nat}
theorem CmI.init {w1 : World} (h : SN P w b v l dp i w) (ht : TabL w) (hb : TabFar b) (hs1 : SN P (w.alloc (.cells cmpZ 70)) b v l dp j w1) (t : ByteArray) : CmI P w b v l dp (w1.heap.size + 1) w1.heap.size t (.slice none 0 0) [] j (w1.alloc (.cells (cmpC t (.slice none 0 0)) 70)) := by
 have hbn := (Below.refl w.heap.size w).alloc (Nat.le_refl _) (.cells cmpZ 70)
 have hz : CB 70 w1 w.heap.size cmpZ := (CB.new (T := 70) w cmpZ).gw hs1.gw (by have := h.wk.lt; omega)
 have hb1 := (Below.refl w1.heap.size w1).alloc (Nat.le_refl _) (.cells (cmpC t (.slice none 0 0)) 70)
 have hsz : (w.alloc (.cells cmpZ 70)).heap.size = w.heap.size + 1 := by simp
 have hs := hs1.gw.size
 exact ⟨((h.below hbn).since hs1).below hb1, hz.below hb1 hz.lt, CB.new _ _, LsG.nil _ _ _ _ _, ((ht.below hbn).gw hs1.gw hb).below hb1, by omega, Nat.lt_succ_self _, by simp⟩
theorem CmI.ret (h : CmI P w b v l dp B gc tag sv ks j W) (t' : ByteArray) (u' : Value) : CB 70 ((W.setCell ⟨w.heap.size, 0, none⟩ (.string t')).setCell ⟨w.heap.size, 1, none⟩ u') w.heap.size (cmpC t' u') ∧ SN P w b v l dp j ((W.setCell ⟨w.heap.size, 0, none⟩ (.string t')).setCell ⟨w.heap.size, 1, none⟩ u') ∧ rdG ((W.setCell ⟨w.heap.size, 0, none⟩ (.string t')).setCell ⟨w.heap.size, 1, none⟩ u') (fun g => w.heap.size ≤ g) (.sl 8 (ks.map Prod.snd)) sv := by
 have h1 := h.o1
 have h2 := h.o2
 refine ⟨?_, (h.sn.far (p := ⟨w.heap.size, 0, none⟩) (Nat.le_refl _) _).far (p := ⟨w.heap.size, 1, none⟩) (Nat.le_refl _) _, ?_⟩
 · have hc := (h.z.set 0 (.string t')).set 1 u'
   rw [show ((cmpZ.setIfInBounds 0 (.string t')).setIfInBounds 1 u') = cmpC t' u' by kernel_rfl] at hc
   exact hc
 · refine rdG.move (fun g _ hg => ?_) (fun g hg _ => ?_) (by simp) _ _ h.row.rd
   · rcases hg with hg | hg <;> omega
   · have hne : g ≠ w.heap.size := by rcases hg with hg | hg <;> omega
     exact (heap_setCell_other _ ⟨w.heap.size, 1, none⟩ g _ hne).trans (heap_setCell_other _ ⟨w.heap.size, 0, none⟩ g _ hne)
end
theorem scomp_any {P : Nat → Prop} {w0 w : World} {b : Nat} {v : Value} {l : List Nd} {dp : Int} {i : Nat} {fn : FnS} (h : SN P w0 b v l dp i w) (hi : i ≤ l.length + 1) (hx : txD l) (ht : TabL w) (hbt : TabFar b) (hd0 : 0 ≤ dp) (hd1 : dp ≤ 10) (hF : FnOk fn (dp + 1)) :
    Calls Tryz.prog 38 #[.pointer (some ⟨b, 0, none⟩)] w (CompPost P w0 b v l dp i w.heap.size (compW fn (l.drop i))) := by
  have hA : AttrOk := sattr_any
  have hll := h.len
  obtain ⟨i0, hi0, hz0, hz1, hz2⟩ := info_parts info_sim
  obtain ⟨R, hR⟩ : ∃ R, compW fn (l.drop i) = R := ⟨_, rfl⟩
  obtain ⟨X, hX⟩ : ∃ X, simF fn 17 [] (tagR (l.drop i)).2 = X := ⟨_, rfl⟩
  have HTAG := Lib.hid (stag_any (h.below ((Below.refl w.heap.size w).alloc (Nat.le_refl _) (.cells cmpZ 70))).now (by omega) hx.top)
  obtain ⟨T, hT⟩ : ∃ T, (tagR (l.drop i)).1 = T := ⟨_, rfl⟩
  have HT := Lib.hid hT
  have HX0 := Lib.hid hX
  have HRX := Lib.hid hR
  have HTL := Lib.hid ht.lt
  rw [hR]
  rw [hT] at HTAG
  have HN := Lib.hid h
  have HINIT := Lib.hid (fun (w1 : World) (hs1 : SN P (w.alloc (.cells cmpZ 70)) b v l dp (tagI l i) w1) => CmI.init h.now ht hbt hs1 T)
  have HS0 := Lib.hid (h.below ((Below.refl w.heap.size w).alloc (Nat.le_refl _) (.cells cmpZ 70)))
  have hti := tagI_le l i
  have htr := tag_rest l i
  clear h hR hT ht
  unfold CompPost
  go_enter Tryz.func38, Tryz.ntmps38
  go_upto_region 1 with fail
  generalize w.alloc (.cells cmpZ 70) = W0 at *
  have c1 := HS0.out.wk.c1
  go_wp2_with (go_at_call 61; (refine HTAG.out.mono ?_); rintro e w1 ⟨rfl, hs1⟩; have HI0 := Lib.hid (HINIT.out w1 hs1); clear hs1)
  clear c1
  generalize w1.alloc (.cells _ 70) = W2 at *
  generalize w1.heap.size = gc at *
  go_loopw [] (fun wr => ∃ acc sv ks j, CmI P w b v l dp (gc + 1) gc T sv ks j wr ∧ ks.map Prod.snd = smsDt acc ∧ acc.length ≤ 16 ∧ i ≤ j ∧ (i < j → i < l.length) ∧ j ≤ l.length + 1 ∧ simF fn (17 - acc.length) acc (l.drop j) = X) (fun wr => leftS b (l.length + 2) wr)
  case atStart =>
   have hj0 : tagI l i ≤ l.length + 1 := by
    by_cases c : i < tagI l i
    · have := (hti.2 c).2
      omega
    · omega
   exact ⟨[], _, [], _, HI0.out, by rw [smsDt]; rfl, Nat.zero_le _, hti.1, fun hlt => (hti.2 hlt).1, hj0, by rw [← htr]; exact HX0.out⟩
  case round =>
   obtain ⟨acc, sv, ks, j, hI, hm, hal, hij, hil, hjl, hXj⟩ := hrel
   clear HI0 HINIT HTAG HS0 hti htr
   have HM := Lib.hid hm
   have hkl : ks.length = acc.length := by
    have h := congrArg List.length hm
    rw [List.length_map, smsDt_len] at h
    exact h
   obtain ⟨oa, oc, rfl, hoc⟩ := hI.gsv
   obtain ⟨m, hkm⟩ : ∃ m, ks.length = m := ⟨_, rfl⟩
   rw [hkm] at hI hkl hoc
   have HKM := Lib.hid hkm
   have HKL := Lib.hid hkl
   have hm16le : m ≤ 16 := by omega
   have HI := Lib.hid hI
   have HAS := Lib.hid (fun (W : World) (hW : SN P w b v l dp j W) (hT : TabL W) => satSimple_any hW hT hx.top)
   obtain ⟨q, hq⟩ : ∃ q, 17 - acc.length = q + 1 := ⟨16 - acc.length, by omega⟩
   rw [hq] at hXj
   clear hm hkm hI hkl
   cases hat : atSimpleR (l.drop j)
   · rw [hat] at HAS
     have HXE : Hid (X = some (acc, l.drop j)) := by
      show _ = _
      rw [← hXj, simF_no hat]
     clear hXj
     by_cases hlt : i < j
     · have HRE : Hid (R = some (.mk T acc, l.drop j)) := by
        show _ = _
        rw [← HRX.out, comp_some (HX0.out.trans HXE.out), if_pos (by rw [List.length_drop, List.length_drop]; have := hil hlt; omega), HT.out]
       have hgI : (i : Int) < (j : Int) := by omega
       have hg1 : decide ((i : Int) < (j : Int)) = true := decide_eq_true hgI
       go_wp2_with (go_at_call 62; (refine (HAS.out _ HI.out.sn HI.out.tab).mono ?_); rintro e w3 ⟨rfl, hb3⟩; have HI3 := Lib.hid (HI.out.below hb3); clear hb3; have c1 := HI3.out.sn.wk.c1; have x0 : w3.cell? ⟨gc, 0, none⟩ = some (.string T) := HI3.out.c.cell 0; have x1 : w3.cell? ⟨gc, 1, none⟩ = some (.slice oa m oc) := HI3.out.c.cell 1; have z0 : w3.cell? ⟨w.heap.size, 0, none⟩ = some (.string ⟨#[]⟩) := HI3.out.z.cell 0; have zf0 : w3.frozen? ⟨w.heap.size, 0, none⟩ = false := HI3.out.z.frozen 0; have z1 : w3.cell? ⟨w.heap.size, 1, none⟩ = some (.slice none 0 0) := HI3.out.z.cell 1; have zf1 : w3.frozen? ⟨w.heap.size, 1, none⟩ = false := HI3.out.z.frozen 1)
       exact bodyPost_ret (v := .tuple #[.agg (cmpC T (.slice oa m oc)), .bool true]) (results_cellT (by rfl) _ _ w.heap.size _ _ _ _ _ (by rfl) (by rfl) (HI3.out.ret T (.slice oa m oc)).1 Tryz.underlying70 (by rfl) cmp_size) rfl ⟨T, acc, _, by rw [HRE.out]; rfl, by have h := (HI3.out.ret T (.slice oa m oc)).2.2; rw [HM.out] at h; exact h, fun c r' h => by rw [HRE.out] at h; cases h; rfl, j, HN.out.since (HI3.out.ret T _).2.1, fun c r' h => by rw [HRE.out] at h; cases h; exact ⟨hjl, hij, hil, rfl⟩⟩
     · obtain rfl : i = j := by omega
       have HEL := Lib.hid (fun (W : World) (hW : SN P w b v l dp i W) (hT : TabL W) => selement_any hW hT hx.top)
       obtain ⟨⟨wh, nd⟩, hel⟩ : ∃ q, elementR (l.drop i) = q := ⟨_, rfl⟩
       rw [hel] at HEL
       have hself : ¬ (i : Int) < (i : Int) := by omega
       have hselfb : decide ((i : Int) < (i : Int)) = false := decide_eq_false hself
       by_cases hn : 0 < nd
       · have HRE : Hid (R = some (.mk starB [], l.drop i)) := by
          show _ = _
          rw [← HRX.out, comp_some (HX0.out.trans HXE.out), if_neg (by omega), hel, if_pos hn]
         have hnI : (0 : Int) < (nd : Int) := by omega
         have hnb : decide ((0 : Int) < (nd : Int)) = true := decide_eq_true hnI
         clear hel
         go_wp2_with (first | (go_at_call 62; (refine (HAS.out _ HI.out.sn HI.out.tab).mono ?_); rintro e w3 ⟨rfl, hb3⟩; have HI3 := Lib.hid (HI.out.below hb3); clear hb3; have c1 := HI3.out.sn.wk.c1) | (go_at_call 39; (refine (HEL.out _ HI3.out.sn HI3.out.tab).mono ?_); rintro e w4 ⟨rfl, hb4⟩; have HI4 := Lib.hid (HI3.out.below hb4); clear hb4; have z0 : w4.cell? ⟨w.heap.size, 0, none⟩ = some (.string ⟨#[]⟩) := HI4.out.z.cell 0; have zf0 : w4.frozen? ⟨w.heap.size, 0, none⟩ = false := HI4.out.z.frozen 0; have z1 : w4.cell? ⟨w.heap.size, 1, none⟩ = some (.slice none 0 0) := HI4.out.z.cell 1; have zf1 : w4.frozen? ⟨w.heap.size, 1, none⟩ = false := HI4.out.z.frozen 1))
         exact bodyPost_ret (v := .tuple #[.agg (cmpC starB (.slice none 0 0)), .bool true]) (results_cellT (by rfl) _ _ w.heap.size _ _ _ _ _ (by rfl) (by rfl) (HI4.out.ret starB (.slice none 0 0)).1 Tryz.underlying70 (by rfl) cmp_size) rfl ⟨starB, [], _, by rw [HRE.out]; rfl, by rw [smsDt]; exact rdG.nil _ _ _ _ _, fun c r' h => by rw [HRE.out] at h; cases h; rfl, i, HN.out.since (HI4.out.ret _ _).2.1, fun c r' h => by rw [HRE.out] at h; cases h; exact ⟨hjl, hij, hil, rfl⟩⟩
       · have HRE : Hid (R = none) := by
          show _ = _
          rw [← HRX.out, comp_some (HX0.out.trans HXE.out), if_neg (by omega), hel, if_neg hn]
         obtain rfl : nd = 0 := by omega
         clear hel
         go_wp2_with (first | (go_at_call 62; (refine (HAS.out _ HI.out.sn HI.out.tab).mono ?_); rintro e w3 ⟨rfl, hb3⟩; have HI3 := Lib.hid (HI.out.below hb3); clear hb3; have c1 := HI3.out.sn.wk.c1) | (go_at_call 39; (refine (HEL.out _ HI3.out.sn HI3.out.tab).mono ?_); rintro e w4 ⟨rfl, hb4⟩; have HI4 := Lib.hid (HI3.out.below hb4); clear hb4; have z0 : w4.cell? ⟨w.heap.size, 0, none⟩ = some (.string ⟨#[]⟩) := HI4.out.z.cell 0; have zf0 : w4.frozen? ⟨w.heap.size, 0, none⟩ = false := HI4.out.z.frozen 0; have z1 : w4.cell? ⟨w.heap.size, 1, none⟩ = some (.slice none 0 0) := HI4.out.z.cell 1; have zf1 : w4.frozen? ⟨w.heap.size, 1, none⟩ = false := HI4.out.z.frozen 1))
         exact bodyPost_ret (v := .tuple #[.agg (cmpC ⟨#[]⟩ (.slice none 0 0)), .bool false]) (results_cellT (by rfl) _ _ w.heap.size _ _ _ _ _ (by rfl) (by rfl) (HI4.out.ret ⟨#[]⟩ (.slice none 0 0)).1 Tryz.underlying70 (by rfl) cmp_size) rfl ⟨_, [], _, by rw [HRE.out]; rfl, by rw [smsDt]; exact rdG.nil _ _ _ _ _, (fun c r' h => by rw [HRE.out] at h; cases h), i, HN.out.since (HI4.out.ret _ _).2.1, (fun c r' h => by rw [HRE.out] at h; cases h)⟩
   · rw [hat] at HAS
     have hjlt := atSimple_lt hat
     have HSM := Lib.hid (fun (W : World) (hW : SN P W b v l dp j W) (hT : TabL W) => ssimple_any (fn := fn) hW (by omega) hx hT hbt hd0 hd1 hF hA)
     unfold SimplePost at HSM
     obtain ⟨⟨Q1, r2⟩, hqq⟩ : ∃ q, simpleW fn (l.drop j) = q := ⟨_, rfl⟩
     simp only [hqq] at HSM
     cases Q1 with
     | none =>
      have HXE : Hid (X = none) := by
       show _ = _
       rw [← hXj, simF_bad hat (by rw [hqq])]
      clear hXj hqq
      have HRE : Hid (R = none) := by
       show _ = _
       rw [← HRX.out, comp_none (HX0.out.trans HXE.out)]
      go_upto_region 5 with (first | (go_at_call 62; (refine (HAS.out _ HI.out.sn HI.out.tab).mono ?_); rintro e w3 ⟨rfl, hb3⟩; have HI3 := Lib.hid (HI.out.below hb3); clear hb3) | (go_at_call 63; (refine (HSM.out _ HI3.out.sn.now HI3.out.tab).mono ?_); rintro e w4 ⟨⟨k', n', o', x', f', a', b', L, u', rfl, hr, hq'⟩, j', hj1, hj2, hjr, hs4⟩; obtain ⟨ya, yc, rfl, _⟩ := hr.shape; have HI4 := Lib.hid ((HI3.out.moved hs4 hbt).below ((Below.refl w4.heap.size w4).alloc (Nat.le_refl _) (.cells (simC k' n' o' x' f' a' b' (.slice ya (cxsDt L).length yc)) 72))); have HY4 := Lib.hid (CB.new (T := 72) w4 (simC k' n' o' x' f' a' b' (.slice ya (cxsDt L).length yc))); have HR4 := Lib.hid (hr.under ((Below.refl w4.heap.size w4).alloc (Nat.le_refl _) (.cells (simC k' n' o' x' f' a' b' (.slice ya (cxsDt L).length yc)) 72)) (Nat.le_refl _)); have HO4 := Lib.hid (fun q hq => (World.ownsRow.lt HI3.out.row.row q hq).2); have HB3 := Lib.hid HI3.out.o3; clear hr hs4))
      generalize w4.alloc (.cells _ 72) = W5 at *
      generalize w4.heap.size = gy at *
      have z0 : W5.cell? ⟨w.heap.size, 0, none⟩ = some (.string ⟨#[]⟩) := HI4.out.z.cell 0
      have zf0 : W5.frozen? ⟨w.heap.size, 0, none⟩ = false := HI4.out.z.frozen 0
      have z1 : W5.cell? ⟨w.heap.size, 1, none⟩ = some (.slice none 0 0) := HI4.out.z.cell 1
      have zf1 : W5.frozen? ⟨w.heap.size, 1, none⟩ = false := HI4.out.z.frozen 1
      go_wp2
      exact bodyPost_ret (v := .tuple #[.agg (cmpC ⟨#[]⟩ (.slice none 0 0)), .bool false]) (results_cellT (by rfl) _ _ w.heap.size _ _ _ _ _ (by rfl) (by rfl) (HI4.out.ret ⟨#[]⟩ (.slice none 0 0)).1 Tryz.underlying70 (by rfl) cmp_size) rfl ⟨_, [], _, by rw [HRE.out]; rfl, by rw [smsDt]; exact rdG.nil _ _ _ _ _, (fun c r' h => by rw [HRE.out] at h; cases h), j', HN.out.since (HI4.out.ret _ _).2.1, (fun c r' h => by rw [HRE.out] at h; cases h)⟩
     | some s =>
      by_cases h16 : acc.length = 16
      · have HXE : Hid (X = none) := by
         show _ = _
         rw [← hXj, simF_full hat h16]
        clear hXj hqq
        obtain rfl : m = 16 := by have := HKL.out; omega
        have HRE : Hid (R = none) := by
         show _ = _
         rw [← HRX.out, comp_none (HX0.out.trans HXE.out)]
        go_upto_region 5 with (first | (go_at_call 62; (refine (HAS.out _ HI.out.sn HI.out.tab).mono ?_); rintro e w3 ⟨rfl, hb3⟩; have HI3 := Lib.hid (HI.out.below hb3); clear hb3) | (go_at_call 63; (refine (HSM.out _ HI3.out.sn.now HI3.out.tab).mono ?_); rintro e w4 ⟨⟨k', n', o', x', f', a', b', L, u', rfl, hr, hq'⟩, j', hj1, hj2, hjr, hs4⟩; obtain ⟨ya, yc, rfl, _⟩ := hr.shape; have HI4 := Lib.hid ((HI3.out.moved hs4 hbt).below ((Below.refl w4.heap.size w4).alloc (Nat.le_refl _) (.cells (simC k' n' o' x' f' a' b' (.slice ya (cxsDt L).length yc)) 72))); have HY4 := Lib.hid (CB.new (T := 72) w4 (simC k' n' o' x' f' a' b' (.slice ya (cxsDt L).length yc))); have HR4 := Lib.hid (hr.under ((Below.refl w4.heap.size w4).alloc (Nat.le_refl _) (.cells (simC k' n' o' x' f' a' b' (.slice ya (cxsDt L).length yc)) 72)) (Nat.le_refl _)); have HO4 := Lib.hid (fun q hq => (World.ownsRow.lt HI3.out.row.row q hq).2); have HB3 := Lib.hid HI3.out.o3; clear hr hs4))
        generalize w4.alloc (.cells _ 72) = W5 at *
        generalize w4.heap.size = gy at *
        have z0 : W5.cell? ⟨w.heap.size, 0, none⟩ = some (.string ⟨#[]⟩) := HI4.out.z.cell 0
        have zf0 : W5.frozen? ⟨w.heap.size, 0, none⟩ = false := HI4.out.z.frozen 0
        have z1 : W5.cell? ⟨w.heap.size, 1, none⟩ = some (.slice none 0 0) := HI4.out.z.cell 1
        have zf1 : W5.frozen? ⟨w.heap.size, 1, none⟩ = false := HI4.out.z.frozen 1
        have x1 : W5.cell? ⟨gc, 1, none⟩ = some (.slice oa 16 oc) := HI4.out.c.cell 1
        go_wp2
        exact bodyPost_ret (v := .tuple #[.agg (cmpC ⟨#[]⟩ (.slice none 0 0)), .bool false]) (results_cellT (by rfl) _ _ w.heap.size _ _ _ _ _ (by rfl) (by rfl) (HI4.out.ret ⟨#[]⟩ (.slice none 0 0)).1 Tryz.underlying70 (by rfl) cmp_size) rfl ⟨_, [], _, by rw [HRE.out]; rfl, by rw [smsDt]; exact rdG.nil _ _ _ _ _, (fun c r' h => by rw [HRE.out] at h; cases h), j', HN.out.since (HI4.out.ret _ _).2.1, (fun c r' h => by rw [HRE.out] at h; cases h)⟩
      · have HXE : Hid (simF fn q (acc ++ [s]) r2 = X) := by
         show _ = _
         rw [← hXj, simF_more hat (by rw [hqq]) h16, hqq]
        clear hXj hqq
        have hm16 : ((m : Int) == 16) = false := beq_false_of_ne (by have := HKL.out; omega)
        have hm16b : ¬ (m : Int) = 16 := by have := HKL.out; omega
        go_upto_region 5 with (first | (go_at_call 62; (refine (HAS.out _ HI.out.sn HI.out.tab).mono ?_); rintro e w3 ⟨rfl, hb3⟩; have HI3 := Lib.hid (HI.out.below hb3); clear hb3) | (go_at_call 63; (refine (HSM.out _ HI3.out.sn.now HI3.out.tab).mono ?_); rintro e w4 ⟨⟨k', n', o', x', f', a', b', L, u', rfl, hr, hq'⟩, j', hj1, hj2, hjr, hs4⟩; obtain ⟨ya, yc, rfl, _⟩ := hr.shape; have HI4 := Lib.hid ((HI3.out.moved hs4 hbt).below ((Below.refl w4.heap.size w4).alloc (Nat.le_refl _) (.cells (simC k' n' o' x' f' a' b' (.slice ya (cxsDt L).length yc)) 72))); have HY4 := Lib.hid (CB.new (T := 72) w4 (simC k' n' o' x' f' a' b' (.slice ya (cxsDt L).length yc))); have HR4 := Lib.hid (hr.under ((Below.refl w4.heap.size w4).alloc (Nat.le_refl _) (.cells (simC k' n' o' x' f' a' b' (.slice ya (cxsDt L).length yc)) 72)) (Nat.le_refl _)); have HO4 := Lib.hid (fun q hq => (World.ownsRow.lt HI3.out.row.row q hq).2); have HB3 := Lib.hid HI3.out.o3; clear hr hs4))
        generalize w4.alloc (.cells _ 72) = W5 at *
        generalize w4.heap.size = gy at *
        have x1 : W5.cell? ⟨gc, 1, none⟩ = some (.slice oa m oc) := HI4.out.c.cell 1
        have y0 : W5.cell? ⟨gy, 0, none⟩ = some (.int .i64 k') := HY4.out.cell 0
        have y1 : W5.cell? ⟨gy, 1, none⟩ = some (.string n') := HY4.out.cell 1
        have y2 : W5.cell? ⟨gy, 2, none⟩ = some (.string o') := HY4.out.cell 2
        have y3 : W5.cell? ⟨gy, 3, none⟩ = some (.string x') := HY4.out.cell 3
        have y4 : W5.cell? ⟨gy, 4, none⟩ = some (.bool f') := HY4.out.cell 4
        have y5 : W5.cell? ⟨gy, 5, none⟩ = some (.int .i64 a') := HY4.out.cell 5
        have y6 : W5.cell? ⟨gy, 6, none⟩ = some (.int .i64 b') := HY4.out.cell 6
        have y7 : W5.cell? ⟨gy, 7, none⟩ = some (.slice ya (cxsDt L).length yc) := HY4.out.cell 7
        have HI6 := Lib.hid (HI4.out.below ((Below.refl W5.heap.size W5).alloc (Nat.le_refl _) (.cells (simC k' n' o' x' f' a' b' (.slice ya (cxsDt L).length yc)) 72)))
        have HNEW := Lib.hid (sim_news W5 k' n' o' x' f' a' b' (.slice ya (cxsDt L).length yc) 72)
        have HRW := Lib.hid HI6.out.row.row
        rw [HKM.out] at HRW
        have HGNE : Hid (some gc ≠ (Value.slice oa m oc).ownBlock) := fun e => by have h1 := (World.ownsRow.lt HRW.out gc e.symm).1; omega
        have HR6 := Lib.hid (HR4.out.under ((Below.refl W5.heap.size W5).alloc (Nat.le_refl _) (.cells (simC k' n' o' x' f' a' b' (.slice ya (cxsDt L).length yc)) 72)) (Nat.le_refl _))
        obtain rfl := hq' s rfl
        go_wp2_with (at_builtin; refine wpList_append_lies _ rfl _ _ 68 rfl (gc + 1) 72 i0 (.agg simZ) 8 104 Tryz.underlying68 hi0 hz0 hz1 hz2 rfl (by decide) (.slice oa m oc) m (ks.flatMap Prod.fst) rfl HRW.out ⟨_, 0, none⟩ 1 1 (simC k' n' o' x' f' a' b' (.slice ya (cxsDt L).length yc)).toList rfl rfl HNEW.out (sim_oneL _ _ _ _ _ _ _ _ _ _) (by decide) (by unfold maxLen; omega) (by omega) HI6.out.o3 _ rfl ?_; intro g cap w7 hown7 hgrow7 hat7 hlt7; have xz : w7.cell? ⟨gc, 1, none⟩ = some (.slice oa m oc) := (HI6.out.c.grows hgrow7 (HGNE.out)).cell 1; have xzf : w7.frozen? ⟨gc, 1, none⟩ = false := (HI6.out.c.grows hgrow7 (HGNE.out)).frozen 1)
        have hce := sim_cells (HR6.out.weak (Q := fun g => gc + 1 ≤ g ∧ (Value.slice oa m oc).ownBlock ≠ some g) fun g _ hg => ⟨Nat.le_trans HB3.out hg, fun e => by have h1 := HO4.out g e; omega⟩) k' n' o' x' f' a' b'
        have hpush := HI6.out.row.push HKM.out hown7 hgrow7 hat7 hce
        have hIN := HI6.out.push HTL.out hgrow7 hpush
        refine ⟨⟨acc ++ [.mk k' n' o' x' f' a' b' L], _, _, j', hIN, ?_, ?_, ?_, ?_, ?_, ?_⟩, ?_⟩
        · rw [List.map_append, HM.out, smsDt_map, smsDt_map, List.map_append]
          rfl
        · rw [List.length_append]
          simp
          omega
        · omega
        · intro _
          omega
        · omega
        · rw [← HXE.out, List.length_append, ← hjr]
          congr 1
          rw [List.length_singleton]
          omega
        · rw [hIN.sn.left, HI.out.sn.left]
          omega
theorem LsG.keepQ {Q Q' : Nat → Prop} {B k : Nat} {T : TypeId} {w w1 : World} {v : Value} {ks : List (List Value × List Dt)} (h : LsG Q B T k w v ks) (hr : ∀ g, v.ownBlock = some g → g < w.heap.size → w1.heap[g]? = w.heap[g]?) (hk : ∀ g, Q g → g < w.heap.size → w1.heap[g]? = w.heap[g]?) (hQ : ∀ g, Q g → g < w.heap.size → Q' g) (hs : w.heap.size ≤ w1.heap.size) : LsG Q' B T k w1 v ks := by
 refine ⟨⟨h.row.1, ?_⟩, fun x hx => ⟨(h.ok x hx).1, (h.ok x hx).2.1, fun i h1 h2 => rdG.move (fun b hl hb => ⟨hQ b hb.1 hl, hb.2⟩) (fun b hb hl => hk b hb.1 hl) hs _ _ ((h.ok x hx).2.2 i h1 h2)⟩⟩
 rcases h.row.2 with hn | ⟨g, cap, cur, rfl, hb, hgg, rest⟩
 · exact .inl hn
 · exact .inr ⟨g, cap, cur, rfl, hb, (hr g rfl (Array.getElem?_eq_some_iff.1 hgg).1).trans hgg, rest⟩
theorem elementR_lt {l : List Nd} {j : Nat} (h : 0 < (elementR (l.drop j)).2) : j + (elementR (l.drop j)).2 ≤ l.length := by
 unfold elementR at h ⊢
 by_cases c0 : (kindA (l.drop j) 0 == 16) = true
 · rw [if_pos c0] at h ⊢
   by_cases c1 : (kindA (l.drop j) 1 == 16) = true
   · rw [if_pos c1] at h ⊢
     by_cases c2 : (kindA (l.drop j) 2 == 1) = true
     · rw [if_pos c2] at h ⊢
       have := kind_lt (l := l) (i := j) (n := 2) (fun e => by rw [e] at c2; cases c2)
       split <;> simp <;> omega
     · rw [if_neg c2] at h
       exact absurd h (Nat.lt_irrefl 0)
   · rw [if_neg c1] at h ⊢
     by_cases c2 : (kindA (l.drop j) 1 == 1) = true
     · rw [if_pos c2] at h ⊢
       have := kind_lt (l := l) (i := j) (n := 1) (fun e => by rw [e] at c2; cases c2)
       split <;> simp <;> omega
     · rw [if_neg c2] at h
       exact absurd h (Nat.lt_irrefl 0)
 · rw [if_neg c0] at h
   exact absurd h (Nat.lt_irrefl 0)
section
variable {fn : FnS} {top : Bool} {m : Nat} {parts : List CmD} {combs : List ByteArray} {r r1 : List Nd} {p : CmD}
theorem chain_none (h : compW fn r = none) : chainF fn top (m + 1) parts combs r = none := by
 rw [chainF, h]
theorem chain_full (h : compW fn r = some (p, r1)) (h8 : parts.length = 8) : chainF fn top (m + 1) parts combs r = none := by
 rw [chainF, h]
 exact if_pos h8
theorem chain_el (h : compW fn r = some (p, r1)) (h8 : parts.length ≠ 8) (he : 0 < (elementR r1).2) : chainF fn top (m + 1) parts combs r = if ((whiteR (r1.drop (elementR r1).2)).isEmpty && top) = true then some (.mk (parts ++ [p]) combs (elementR r1).1) else none := by
 rw [chainF, h]
 exact (if_neg h8).trans (if_pos he)
theorem chain_end (h : compW fn r = some (p, r1)) (h8 : parts.length ≠ 8) (he : ¬ 0 < (elementR r1).2) (hc : ((combR r1).1.toList == []) = true) : chainF fn top (m + 1) parts combs r = if (combR r1).2.isEmpty = true then some (.mk (parts ++ [p]) combs 0) else none := by
 rw [chainF, h]
 exact (if_neg h8).trans ((if_neg he).trans (if_pos hc))
theorem chain_more (h : compW fn r = some (p, r1)) (h8 : parts.length ≠ 8) (he : ¬ 0 < (elementR r1).2) (hc : ((combR r1).1.toList == []) = false) : chainF fn top (m + 1) parts combs r = chainF fn top m (parts ++ [p]) (combs ++ [(combR r1).1]) (combR r1).2 := by
 rw [chainF, h]
 exact (if_neg h8).trans ((if_neg he).trans (if_neg (by rw [hc]; decide)))
end
abbrev cbDt (l : List ByteArray) : List (List Dt) := l.map fun x => [.lf (.string x)]
abbrev cxC (u1 u2 : Value) (s : Int) : Array Value := #[u1, u2, .int .i64 s]
abbrev cxZ : Array Value := cxC (.slice none 0 0) (.slice none 0 0) 0
theorem cx_size : (Tryz.prog.info? 35).map (·.size) = some 3 := by kernel_rfl
theorem info_cmp : (Tryz.prog.info? 70).map (fun i => (i.zero, i.size, i.bytes)) = some (some (.agg cmpZ), 2, 40) := by kernel_rfl
theorem info_txt : (Tryz.prog.info? 9).map (fun i => (i.zero, i.size, i.bytes)) = some (some (.string ⟨#[]⟩), 1, 16) := by kernel_rfl
theorem cmp_news (w : World) (t : ByteArray) (u : Value) (T : TypeId) : ∀ j y, ((cmpC t u).toList)[j]? = some y → (w.alloc (.cells (cmpC t u) T)).cell? ((⟨w.heap.size, 0, none⟩ : Addr).add j) = some y :=
 World.news_of_block (cs := cmpC t u) (heap_alloc_self _ _)
theorem cmp_oneL (t : ByteArray) (p : Option Addr) (m c : Nat) : ∀ u ∈ (cmpC t (.slice p m c)).toList, u.oneCell' = true := by
 intro u hu
 simp only [List.mem_cons, List.not_mem_nil, or_false] at hu
 rcases hu with rfl | rfl <;> rfl
theorem txt_news (w : World) (t : ByteArray) (T : TypeId) : ∀ j y, ([Value.string t])[j]? = some y → (w.alloc (.cells #[.string t] T)).cell? ((⟨w.heap.size, 0, none⟩ : Addr).add j) = some y :=
 World.news_of_block (cs := #[.string t]) (heap_alloc_self _ _)
theorem txt_oneL (t : ByteArray) : ∀ u ∈ [Value.string t], u.oneCell' = true := by
 intro u hu
 simp only [List.mem_cons, List.not_mem_nil, or_false] at hu
 rcases hu with rfl
 rfl
theorem cmp_cells {W : World} {Q : Nat → Prop} {S : List SmD} {u : Value} (h : rdG W Q (.sl 8 (smsDt S)) u) (t : ByteArray) : CellsOk W Q 2 ((cmpC t u).toList, (CmD.mk t S).dt) := by
 refine ⟨rfl, CmD.dt_len _, ?_⟩
 intro i h1 h2
 rw [CmD.dt_len] at h2
 simp only [CmD.dt]
 match i, h2 with
 | 0, _ => exact (by rw [rdG] : rdG W Q (.lf (.string t)) (.string t))
 | 1, _ => exact h
theorem txt_cells (W : World) (Q : Nat → Prop) (t : ByteArray) : CellsOk W Q 1 ([Value.string t], [Dt.lf (.string t)]) := by
 refine ⟨rfl, rfl, ?_⟩
 intro i h1 h2
 have h2 : i < 1 := h2
 match i, h2 with
 | 0, _ => exact (by rw [rdG] : rdG W Q (.lf (.string t)) (.string t))
structure ChI (P : Nat → Prop) (w : World) (b : Nat) (v : Value) (l : List Nd) (dp : Int) (B gc : Nat) (sv1 : Value) (ks1 : List (List Value × List Dt)) (sv2 : Value) (ks2 : List (List Value × List Dt)) (ps : Int) (j : Nat) (W : World) : Prop where
  sn : SN P w b v l dp j W
  z : CB 35 W w.heap.size cxZ
  c : CB 35 W gc (cxC sv1 sv2 ps)
  row1 : LsG (fun g => B ≤ g ∧ sv2.ownBlock ≠ some g) B 70 2 W sv1 ks1
  row2 : LsG (fun _ => False) B 9 1 W sv2 ks2
  sep : ∀ g, sv1.ownBlock = some g → sv2.ownBlock ≠ some g
  tab : TabL W
  o1 : w.heap.size < gc
  o2 : gc < B
  o3 : B ≤ W.heap.size
section
variable {P : Nat → Prop} {w W W' : World} {b : Nat} {v : Value} {l : List Nd} {dp : Int} {B gc : Nat} {sv1 : Value} {ks1 : List (List Value × List Dt)} {sv2 : Value} {ks2 : List (List Value × List Dt)} {ps : Int} {j j' : Nat}
theorem ChI.below (h : ChI P w b v l dp B gc sv1 ks1 sv2 ks2 ps j W) (hb : Below W.heap.size W W') : ChI P w b v l dp B gc sv1 ks1 sv2 ks2 ps j W' :=
 ⟨h.sn.below hb, h.z.below hb h.z.lt, h.c.below hb h.c.lt, h.row1.below hb, h.row2.below hb, h.sep, h.tab.below hb, h.o1, h.o2, Nat.le_trans h.o3 hb.size⟩
theorem ChI.drew (h : ChI P w b v l dp B gc sv1 ks1 sv2 ks2 ps j W) : ChI P w b v l dp B gc sv1 ks1 sv2 ks2 ps j W.drew := h.below (Below.refl W.heap.size W).drew
theorem ChI.moved (h : ChI P w b v l dp B gc sv1 ks1 sv2 ks2 ps j W) (hs : SN P W b v l dp j' W') (hb : TabFar b) : ChI P w b v l dp B gc sv1 ks1 sv2 ks2 ps j' W' := by
 have hbo := h.sn.old
 have h1 := h.o1
 have h2 := h.o2
 have hk : ∀ g, B ≤ g → g < W.heap.size → W'.heap[g]? = W.heap[g]? := fun g hg hl => hs.gw.block g hl (fun e => by have := Option.some.inj e; omega)
 exact ⟨h.sn.since hs, h.z.gw hs.gw (by omega), h.c.gw hs.gw (by omega), h.row1.keepQ (fun g hg hl => hk g (World.ownsRow.lt h.row1.row g hg).1 hl) (fun g hg hl => hk g hg.1 hl) (fun g hg _ => hg) hs.gw.size, h.row2.keepQ (fun g hg hl => hk g (World.ownsRow.lt h.row2.row g hg).1 hl) (fun g hg _ => hg.elim) (fun g hg _ => hg) hs.gw.size, h.sep, h.tab.gw hs.gw hb, h.o1, h.o2, Nat.le_trans h.o3 hs.gw.size⟩
theorem ChI.g1 (h : ChI P w b v l dp B gc sv1 ks1 sv2 ks2 ps j W) : ∃ a c, sv1 = .slice a ks1.length c ∧ ks1.length ≤ c := row_sl h.row1.row
theorem ChI.g2 (h : ChI P w b v l dp B gc sv1 ks1 sv2 ks2 ps j W) : ∃ a c, sv2 = .slice a ks2.length c ∧ ks2.length ≤ c := row_sl h.row2.row
theorem ChI.field (h : ChI P w b v l dp B gc sv1 ks1 sv2 ks2 ps j W) {k : Nat} {u sv1' sv2' : Value} {ps' : Int} (hc : (cxC sv1 sv2 ps).setIfInBounds k u = cxC sv1' sv2' ps')
    (r1 : LsG (fun g => B ≤ g ∧ sv2'.ownBlock ≠ some g) B 70 2 W sv1' ks1) (r2 : LsG (fun _ => False) B 9 1 W sv2' ks2) (sp : ∀ g, sv1'.ownBlock = some g → sv2'.ownBlock ≠ some g) (ht : 1 < w.heap.size ∧ 0 < w.heap.size) :
    ChI P w b v l dp B gc sv1' ks1 sv2' ks2 ps' j (W.setCell ⟨gc, k, none⟩ u) := by
  have h1 := h.o1
  have h2 := h.o2
  have hcc := h.c.set k u
  rw [hc] at hcc
  have hf : ∀ g, B ≤ g → g < W.heap.size → (W.setCell ⟨gc, k, none⟩ u).heap[g]? = W.heap[g]? := fun g hg _ => heap_setCell_other W ⟨gc, k, none⟩ g u (by show g ≠ gc; omega)
  refine ⟨h.sn.far (p := ⟨gc, k, none⟩) (by show w.heap.size ≤ gc; omega) u, h.z.far (p := ⟨gc, k, none⟩) (by show w.heap.size ≠ gc; omega) u, hcc, r1.keepQ (fun g hg hl => hf g (World.ownsRow.lt r1.row g hg).1 hl) (fun g hg hl => hf g hg.1 hl) (fun g hg _ => hg) (by simp), r2.keepQ (fun g hg hl => hf g (World.ownsRow.lt r2.row g hg).1 hl) (fun g hg _ => hg.elim) (fun g hg _ => hg) (by simp), sp, ?_, h.o1, h.o2, by simp; exact h.o3⟩
  exact ⟨rangeAt_far h.tab.wd (by show 1 ≠ gc; have := ht.1; omega), rangeAt_far h.tab.el (by show 0 ≠ gc; have := ht.2; omega)⟩
theorem ChI.rest (h : ChI P w b v l dp B gc sv1 ks1 sv2 ks2 ps j W) (ht : 1 < w.heap.size ∧ 0 < w.heap.size) {row : Option Nat} (hG : W.grownBy W' row) (hr : ∀ q, row = some q → B ≤ q) :
    SN P w b v l dp j W' ∧ CB 35 W' w.heap.size cxZ ∧ CB 35 W' gc (cxC sv1 sv2 ps) ∧ TabL W' ∧ B ≤ W'.heap.size := by
  have h1 := h.o1
  have h2 := h.o2
  have hne : ∀ k, k < B → some k ≠ row := fun k hk e => by have := hr k e.symm; omega
  exact ⟨h.sn.grown hG (fun q hq => by have := hr q hq; omega), h.z.grows hG (hne _ (by omega)), h.c.grows hG (hne _ h2), ⟨rangeAt_grown h.tab.wd (by decide) hG (hne _ (by have := ht.1; omega)), rangeAt_grown h.tab.el (by decide) hG (hne _ (by have := ht.2; omega))⟩, Nat.le_trans h.o3 hG.size⟩
theorem ChI.push1 (h : ChI P w b v l dp B gc sv1 ks1 sv2 ks2 ps j W) (ht : 1 < w.heap.size ∧ 0 < w.heap.size) {n g cap : Nat} {e : List Value × List Dt} (hG : W.grownBy W' sv1.ownBlock) (hat : sv1.ownBlock = some g ∨ g = W.heap.size)
    (hrow : LsG (fun g => B ≤ g ∧ sv2.ownBlock ≠ some g) B 70 2 W' (.slice (some ⟨g, 0, none⟩) n cap) (ks1 ++ [e])) :
    ChI P w b v l dp B gc (.slice (some ⟨g, 0, none⟩) n cap) (ks1 ++ [e]) sv2 ks2 ps j (W'.setCell ⟨gc, 0, none⟩ (.slice (some ⟨g, 0, none⟩) n cap)) := by
  obtain ⟨a1, a2, a3, a4, a5⟩ := h.rest ht hG fun q hq => (World.ownsRow.lt h.row1.row q hq).1
  have hr2 : LsG (fun _ => False) B 9 1 W' sv2 ks2 := h.row2.keepQ (fun q hq hl => hG.block q hl (fun e => h.sep q e.symm hq)) (fun _ hq _ => hq.elim) (fun _ hq _ => hq) hG.size
  have hsep : ∀ q, (Value.slice (some ⟨g, 0, none⟩) n cap).ownBlock = some q → sv2.ownBlock ≠ some q := fun q hq e => by
   have hqg : g = q := by simpa [Value.ownBlock] using hq
   subst hqg
   rcases hat with hat | hat
   · exact h.sep g hat e
   · have := (World.ownsRow.lt h.row2.row g e).2
     omega
  have h0 : ChI P w b v l dp B gc sv1 (ks1 ++ [e]) sv2 ks2 ps j W' → ChI P w b v l dp B gc (.slice (some ⟨g, 0, none⟩) n cap) (ks1 ++ [e]) sv2 ks2 ps j (W'.setCell ⟨gc, 0, none⟩ (.slice (some ⟨g, 0, none⟩) n cap)) := fun hh => hh.field (k := 0) rfl hrow hr2 hsep ht
  have h1 := h.o1
  have h2 := h.o2
  have hcc := a3.set 0 (.slice (some ⟨g, 0, none⟩) n cap)
  have hf : ∀ q, B ≤ q → q < W'.heap.size → (W'.setCell ⟨gc, 0, none⟩ (.slice (some ⟨g, 0, none⟩) n cap)).heap[q]? = W'.heap[q]? := fun q hq _ => heap_setCell_other W' ⟨gc, 0, none⟩ q _ (by show q ≠ gc; omega)
  clear h0
  exact ⟨a1.far (p := ⟨gc, 0, none⟩) (by show w.heap.size ≤ gc; omega) _, a2.far (p := ⟨gc, 0, none⟩) (by show w.heap.size ≠ gc; omega) _, hcc, hrow.keepQ (fun q hq hl => hf q (World.ownsRow.lt hrow.row q hq).1 hl) (fun q hq hl => hf q hq.1 hl) (fun _ hq _ => hq) (by simp), hr2.keepQ (fun q hq hl => hf q (World.ownsRow.lt hr2.row q hq).1 hl) (fun _ hq _ => hq.elim) (fun _ hq _ => hq) (by simp), hsep, ⟨rangeAt_far a4.wd (by show 1 ≠ gc; have := ht.1; omega), rangeAt_far a4.el (by show 0 ≠ gc; have := ht.2; omega)⟩, h1, h2, by simp; exact a5⟩
theorem ChI.push2 (h : ChI P w b v l dp B gc sv1 ks1 sv2 ks2 ps j W) (ht : 1 < w.heap.size ∧ 0 < w.heap.size) {n g cap : Nat} {e : List Value × List Dt} (hG : W.grownBy W' sv2.ownBlock) (hat : sv2.ownBlock = some g ∨ g = W.heap.size)
    (hrow : LsG (fun _ => False) B 9 1 W' (.slice (some ⟨g, 0, none⟩) n cap) (ks2 ++ [e])) :
    ChI P w b v l dp B gc sv1 ks1 (.slice (some ⟨g, 0, none⟩) n cap) (ks2 ++ [e]) ps j (W'.setCell ⟨gc, 1, none⟩ (.slice (some ⟨g, 0, none⟩) n cap)) := by
  obtain ⟨a1, a2, a3, a4, a5⟩ := h.rest ht hG fun q hq => (World.ownsRow.lt h.row2.row q hq).1
  have hr1 : LsG (fun q => B ≤ q ∧ (Value.slice (some ⟨g, 0, none⟩) n cap).ownBlock ≠ some q) B 70 2 W' sv1 ks1 := h.row1.keepQ (fun q hq hl => hG.block q hl (fun e => h.sep q hq e.symm)) (fun q hq hl => hG.block q hl (fun e => hq.2 e.symm)) (fun q hq hl => ⟨hq.1, row_hat hat hl hq.2⟩) hG.size
  have hsep : ∀ q, sv1.ownBlock = some q → (Value.slice (some ⟨g, 0, none⟩) n cap).ownBlock ≠ some q := fun q hq => row_hat hat (World.ownsRow.lt h.row1.row q hq).2 (h.sep q hq)
  have h1 := h.o1
  have h2 := h.o2
  have hcc := a3.set 1 (.slice (some ⟨g, 0, none⟩) n cap)
  have hf : ∀ q, B ≤ q → q < W'.heap.size → (W'.setCell ⟨gc, 1, none⟩ (.slice (some ⟨g, 0, none⟩) n cap)).heap[q]? = W'.heap[q]? := fun q hq _ => heap_setCell_other W' ⟨gc, 1, none⟩ q _ (by show q ≠ gc; omega)
  exact ⟨a1.far (p := ⟨gc, 1, none⟩) (by show w.heap.size ≤ gc; omega) _, a2.far (p := ⟨gc, 1, none⟩) (by show w.heap.size ≠ gc; omega) _, hcc, hr1.keepQ (fun q hq hl => hf q (World.ownsRow.lt hr1.row q hq).1 hl) (fun q hq hl => hf q hq.1 hl) (fun _ hq _ => hq) (by simp), hrow.keepQ (fun q hq hl => hf q (World.ownsRow.lt hrow.row q hq).1 hl) (fun _ hq _ => hq.elim) (fun _ hq _ => hq) (by simp), hsep, ⟨rangeAt_far a4.wd (by show 1 ≠ gc; have := ht.1; omega), rangeAt_far a4.el (by show 0 ≠ gc; have := ht.2; omega)⟩, h1, h2, by simp; exact a5⟩
theorem ChI.ret (h : ChI P w b v l dp B gc sv1 ks1 sv2 ks2 ps j W) (u1 u2 : Value) (s : Int) : CB 35 (((W.setCell ⟨w.heap.size, 0, none⟩ u1).setCell ⟨w.heap.size, 1, none⟩ u2).setCell ⟨w.heap.size, 2, none⟩ (.int .i64 s)) w.heap.size (cxC u1 u2 s) ∧ Gw b w (((W.setCell ⟨w.heap.size, 0, none⟩ u1).setCell ⟨w.heap.size, 1, none⟩ u2).setCell ⟨w.heap.size, 2, none⟩ (.int .i64 s)) ∧ rdG (((W.setCell ⟨w.heap.size, 0, none⟩ u1).setCell ⟨w.heap.size, 1, none⟩ u2).setCell ⟨w.heap.size, 2, none⟩ (.int .i64 s)) (fun g => w.heap.size ≤ g) (.sl 2 (ks1.map Prod.snd)) sv1 ∧ rdG (((W.setCell ⟨w.heap.size, 0, none⟩ u1).setCell ⟨w.heap.size, 1, none⟩ u2).setCell ⟨w.heap.size, 2, none⟩ (.int .i64 s)) (fun g => w.heap.size ≤ g) (.sl 1 (ks2.map Prod.snd)) sv2 := by
 have h1 := h.o1
 have h2 := h.o2
 have hb : ∀ g, B ≤ g → (((W.setCell ⟨w.heap.size, 0, none⟩ u1).setCell ⟨w.heap.size, 1, none⟩ u2).setCell ⟨w.heap.size, 2, none⟩ (.int .i64 s)).heap[g]? = W.heap[g]? := fun g hg => by
  have hne : g ≠ w.heap.size := by omega
  exact (heap_setCell_other _ ⟨w.heap.size, 2, none⟩ g _ hne).trans ((heap_setCell_other _ ⟨w.heap.size, 1, none⟩ g _ hne).trans (heap_setCell_other _ ⟨w.heap.size, 0, none⟩ g _ hne))
 refine ⟨?_, ((((h.sn.gw.set (p := ⟨w.heap.size, 0, none⟩) (Or.inr (Nat.le_refl _)) _)).set (p := ⟨w.heap.size, 1, none⟩) (Or.inr (Nat.le_refl _)) _).set (p := ⟨w.heap.size, 2, none⟩) (Or.inr (Nat.le_refl _)) _), ?_, ?_⟩
 · have hc := ((h.z.set 0 u1).set 1 u2).set 2 (.int .i64 s)
   rw [show (((cxZ.setIfInBounds 0 u1).setIfInBounds 1 u2).setIfInBounds 2 (.int .i64 s)) = cxC u1 u2 s by kernel_rfl] at hc
   exact hc
 · refine rdG.move (fun g _ hg => ?_) (fun g hg _ => ?_) (by simp) _ _ h.row1.rd
   · rcases hg with hg | hg
     · have := hg.1
       omega
     · omega
   · rcases hg with hg | hg
     · exact hb g hg.1
     · exact hb g hg
 · refine rdG.move (fun g _ hg => ?_) (fun g hg _ => ?_) (by simp) _ _ h.row2.rd
   · rcases hg with hg | hg
     · exact hg.elim
     · omega
   · rcases hg with hg | hg
     · exact hg.elim
     · exact hb g hg
end
end Go.Proofs.YtclicjiakkcfcaaGreatDoor
