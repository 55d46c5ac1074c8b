import Derived.Test.YtclicjiakkcfcaaGreatDoorSmL
import Derived.Deep.RegionHeld3
set_option maxRecDepth 100000
set_option maxHeartbeats 1000000
namespace Go.Proofs.YtclicjiakkcfcaaGreatDoor
open Go.RowKit
theorem sc_start {w : World} {Q : Nat → Prop} {Pt : List CmD} {cb : List ByteArray} {ps : Int} {u1 : Value} {a2 : Option Addr} {n2 c2 : Nat} (h1 : rdG w Q (.sl 2 (cmsDt Pt)) u1) (h2 : rdG w Q (.sl 1 (cb.map fun x => [.lf (.string x)])) (.slice a2 n2 c2)) :
    let W := (((w.alloc (.cells (cxC u1 (.slice a2 n2 c2) ps) 35)).alloc (.cells z3 37)).alloc (.cells (cxC u1 (.slice a2 n2 c2) ps) 35)).alloc (.cells #[.slice (some ⟨w.heap.size + 2, 0, none⟩) 1 1, .slice none 0 0, .int .i64 0, .int .i64 0, .int .i64 0, .int .i64 0, .int .i64 0, .int .i64 0] 55)
    StW W (w.heap.size + 2) (w.heap.size + 3) 1 [(.slice (some ⟨w.heap.size + 2, 0, none⟩) 1 1, .slice none 0 0, Sc.new [.mk Pt cb ps])] ∧ CB 37 W (w.heap.size + 1) z3 ∧ Below w.heap.size w W := by
  intro W
  have e1 : (w.alloc (.cells (cxC u1 (.slice a2 n2 c2) ps) 35)).heap.size = w.heap.size + 1 := by simp
  have e2 : ((w.alloc (.cells (cxC u1 (.slice a2 n2 c2) ps) 35)).alloc (.cells z3 37)).heap.size = w.heap.size + 2 := by simp
  have e3 : (((w.alloc (.cells (cxC u1 (.slice a2 n2 c2) ps) 35)).alloc (.cells z3 37)).alloc (.cells (cxC u1 (.slice a2 n2 c2) ps) 35)).heap.size = w.heap.size + 3 := by simp
  have hB : Below w.heap.size w W := ((((Below.refl w.heap.size w).alloc (Nat.le_refl _) _).alloc (by simp) _).alloc (by simp; omega) _).alloc (by simp; omega) _
  have hC := (CB.new (T := 35) ((w.alloc (.cells (cxC u1 (.slice a2 n2 c2) ps) 35)).alloc (.cells z3 37)) (cxC u1 (.slice a2 n2 c2) ps)).alloc (.cells #[.slice (some ⟨w.heap.size + 2, 0, none⟩) 1 1, .slice none 0 0, .int .i64 0, .int .i64 0, .int .i64 0, .int .i64 0, .int .i64 0, .int .i64 0] 55)
  rw [e2] at hC
  have hS := CB.new (T := 55) (((w.alloc (.cells (cxC u1 (.slice a2 n2 c2) ps) 35)).alloc (.cells z3 37)).alloc (.cells (cxC u1 (.slice a2 n2 c2) ps) 35)) #[.slice (some ⟨w.heap.size + 2, 0, none⟩) 1 1, .slice none 0 0, .int .i64 0, .int .i64 0, .int .i64 0, .int .i64 0, .int .i64 0, .int .i64 0]
  rw [e3] at hS
  have hR := ((CB.new (T := 37) (w.alloc (.cells (cxC u1 (.slice a2 n2 c2) ps) 35)) z3).alloc (.cells (cxC u1 (.slice a2 n2 c2) ps) 35)).alloc (.cells #[.slice (some ⟨w.heap.size + 2, 0, none⟩) 1 1, .slice none 0 0, .int .i64 0, .int .i64 0, .int .i64 0, .int .i64 0, .int .i64 0, .int .i64 0] 55)
  rw [e1] at hR
  refine ⟨⟨⟨_, hS, rfl, Nat.le_refl _, rfl⟩, Nat.le_succ _, by unfold maxLen; decide, fun e he => ?_⟩, hR, hB⟩
  simp at he
  subst he
  have k1 : rdG W (fun b => b ≠ w.heap.size + 3) (.sl 2 (cmsDt Pt)) u1 := rdG.move (Q := fun b => b ≠ w.heap.size + 3) (fun b hb _ => by show b ≠ w.heap.size + 3; omega) (fun b _ hl => hB.block b hl) hB.size _ _ h1
  have k2 : rdG W (fun b => b ≠ w.heap.size + 3) (.sl 1 (cb.map fun x => [.lf (.string x)])) (.slice a2 n2 c2) := rdG.move (Q := fun b => b ≠ w.heap.size + 3) (fun b hb _ => by show b ≠ w.heap.size + 3; omega) (fun b _ hl => hB.block b hl) hB.size _ _ h2
  refine ⟨?_, rdG.nil _ _ _ _ _⟩
  show rdG W _ (.sl 3 (cxsDt [.mk Pt cb ps])) _
  rw [rdG]
  refine ⟨_, 1, by rw [cxsDt_len]; rfl, by rw [cxsDt_len]; exact Nat.le_refl _, fun _ => ⟨w.heap.size + 2, 0, rfl, by show w.heap.size + 2 ≠ w.heap.size + 3; omega, hC.lt, ?_⟩⟩
  simp only [cxsDt, CxD.dt, rdRows, rdRow]
  refine ⟨rfl, ⟨⟨u1, hC.cell 0, k1⟩, ⟨_, hC.cell 1, k2⟩, ⟨_, hC.cell 2, ?_⟩, trivial⟩, trivial⟩
  rw [rdG]
  rfl
theorem okUp_le : ∀ (ks : List Sc) (R R' : Nat), okUp R ks R' → R' ≤ R
  | [], R, R', h => Nat.le_of_eq h
  | k :: ks, R, R', h => by
   obtain ⟨R1, h1, h2⟩ := h
   have h3 := okUp_le ks R1 R' h2
   obtain ⟨B, _, h4⟩ := h1.sum
   omega
theorem cells8_new (W : World) (y0 y1 y2 y3 y4 y5 y6 y7 : Value) (T : TypeId) : ∀ j u, [y0, y1, y2, y3, y4, y5, y6, y7][j]? = some u → (W.alloc (.cells #[y0, y1, y2, y3, y4, y5, y6, y7] T)).cell? ((⟨W.heap.size, 0, none⟩ : Addr).add j) = some u :=
 World.news_of_block (cs := #[y0, y1, y2, y3, y4, y5, y6, y7]) (heap_alloc_self _ _)
theorem stN_ge : ∀ st : List Sc, st.length ≤ stN st
  | [] => Nat.zero_le _
  | s :: st => by
   have := stN_ge st
   have h1 : 1 ≤ s.n := by unfold Sc.n; omega
   unfold stN at *
   rw [List.map_cons, List.sum_cons, List.length_cons]
   omega
theorem scs_snoc (ks : List SE) (t : SE) : (scs (ks ++ [t])).reverse = t.2.2 :: (scs ks).reverse := by simp [scs]
theorem grown_belowM {w w1 w2 : World} {B : Nat} {g : Nat} (h : Below B w w1) (hg : w1.grownBy w2 (some g)) (hB : B ≤ w1.heap.size) (hgB : B ≤ g) : Below B w w2 := h.grown hg hB (fun j hj => by injection hj; omega)
theorem CB.gwK {T : TypeId} {w w' : World} {b g : Nat} {cs : Array Value} (h : CB T w b cs) (hg : w.grownBy w' (some g)) (hne : b ≠ g) : CB T w' b cs := (hg.block b h.lt (fun e => hne (Option.some.inj e))).trans h
theorem weigh_any {w : World} {Q : Nat → Prop} {Pt : List CmD} {cb : List ByteArray} {ps : Int} {u1 : Value} {a2 : Option Addr} {n2 c2 : Nat} (h1 : rdG w Q (.sl 2 (cmsDt Pt)) u1) (h2 : rdG w Q (.sl 1 (cb.map fun x => [.lf (.string x)])) (.slice a2 n2 c2)) (hok : okCx (.mk Pt cb ps)) (hn : nCx (.mk Pt cb ps) ≤ 100000000) (hz : zCx (.mk Pt cb ps) ≤ 1000000000000000) :
    Calls Tryz.prog 10 #[.agg (cxC u1 (.slice a2 n2 c2) ps)] w fun e w' => e = .returned (.agg (gr3 (wCx (.mk Pt cb ps)) W3.zero).cs) ∧ Below w.heap.size w w' := by
  obtain ⟨i0, hi0, hz0, hz1, hz2⟩ := info_parts info_scale
  have HS0 := Lib.hid (sc_start (ps := ps) h1 h2)
  obtain ⟨ua, un, uc, hu1⟩ : ∃ a n c, u1 = .slice a n c := by
   obtain ⟨a, c, e, _⟩ := h1.shape
   exact ⟨a, _, c, e⟩
  subst hu1
  obtain ⟨C, hC⟩ : ∃ C, CxD.mk Pt cb ps = C := ⟨_, rfl⟩
  rw [hC] at HS0 hok hn hz ⊢
  obtain ⟨V, hV⟩ : ∃ V, gr3 (wCx C) W3.zero = V := ⟨_, rfl⟩
  have HV0 := Lib.hid (show stV [Sc.new [C]] = V by
   rw [← hV, stV_cons, List.foldl_nil, Sc.val_new, wLs, wLs])
  have HU0 := Lib.hid (show okMid (zCx C) (Sc.new [C]) 0 from ⟨bndW.zero _, by show zLs [C] ≤ zCx C; rw [zLs, zLs]; omega, ⟨0, bndW.zero 0, by show 0 + zIn [] + 0 ≤ zCx C; rw [zIn]; omega⟩, by show okLs [C]; rw [okLs, okLs]; exact ⟨hok, trivial⟩, fun x hx => by simp [Sc.new] at hx⟩)
  have HM0 := Lib.hid (show stN [Sc.new [C]] ≤ 100000002 by
   unfold stN Sc.n Sc.new
   simp only [List.map_cons, List.map_nil, List.sum_cons, List.sum_nil]
   rw [nLs, nLs, nIn]
   omega)
  obtain ⟨Z, hZ⟩ : ∃ Z, zCx C = Z := ⟨_, rfl⟩
  rw [hZ] at HU0 hz
  obtain ⟨M0, hM0⟩ : ∃ M, stN [Sc.new [C]] = M := ⟨_, rfl⟩
  rw [hM0] at HM0
  have HME := Lib.hid hM0
  rw [hV]
  clear h1 h2 hok hn hC hZ hV hM0
  go_enter Tryz.func10, Tryz.ntmps10
  go_wp2
  generalize World.alloc (World.alloc (World.alloc (World.alloc w _) _) _) _ = W0 at *
  go_loopg [3] M0 (fun k ov wr => ∃ (ks : List SE) (t : SE) (g cap : Nat), k = stN (t.2.2 :: (scs ks).reverse) ∧ k ≤ M0 ∧ ov = .slice (some ⟨g, 0, none⟩) (ks.length + 1) cap ∧ StW wr (w.heap.size + 2) g cap (ks ++ [t]) ∧ CB 37 wr (w.heap.size + 1) z3 ∧ (∃ R, okUp Z (scs ks) R ∧ okMid R t.2.2 0) ∧ stV (t.2.2 :: (scs ks).reverse) = V ∧ Below w.heap.size w wr)
  case atStart => exact ⟨[], _, _, _, HME.out.symm, Nat.le_refl _, rfl, HS0.out.1, HS0.out.2.1, ⟨Z, rfl, HU0.out⟩, HV0.out, HS0.out.2.2⟩
  case round =>
   obtain ⟨ks, t, g, cap, hgk, hgb, rfl, hst, hrb, hup, hv, hbw⟩ := hrel
   clear HS0 HV0 HU0
   obtain ⟨lv, iv, ⟨sl, si, ss, sm⟩⟩ := t
   obtain ⟨cur, hsc, hturn⟩ := hst.turn
   have hre := hst.rd (lv, iv, ⟨sl, si, ss, sm⟩) (by simp)
   obtain ⟨n, hn⟩ : ∃ n, ks.length = n := ⟨_, rfl⟩
   have hnM : n + 1 ≤ M0 := by
    have h1 := stN_ge (Sc.mk sl si ss sm :: (scs ks).reverse)
    rw [← hgk, List.length_cons, List.length_reverse, List.length_map, hn] at h1
    omega
   rw [hn] at hsc hturn ⊢
   have HNK := Lib.hid hn
   have HGK := Lib.hid hgk
   have HUP := Lib.hid hup
   have HVV := Lib.hid hv
   clear hn hgk hup hv
   have hM0 := HM0.out
   have hnI : (n : Int) < (n : Int) + 1 := by omega
   cases si with
   | cons x q =>
    obtain ⟨pb, po, pc, xv, hiv, hpc, hpb, hpg, k1, rx, rq⟩ := hre.inner.lsHead
    have hiv : iv = .slice (some ⟨pb, po, none⟩) (q.length + 1) pc := hiv
    subst hiv
    obtain ⟨xa, xc, hxv, _⟩ := rx.shape
    rw [cxsDt_len] at hxv
    subst hxv
    obtain ⟨X, hX⟩ : ∃ X, x.length = X := ⟨_, rfl⟩
    obtain ⟨m, hm⟩ : ∃ m, q.length = m := ⟨_, rfl⟩
    rw [hX] at k1 rx
    rw [hm] at hpc hsc hre rq hst
    have HQ := Lib.hid (fun (e : m = 0) => (List.eq_nil_of_length_eq_zero (hm.trans e) : q = []))
    have i1 : wr.cell? ⟨g, n * 8 + 1, none⟩ = some (.slice (some ⟨pb, po, none⟩) (m + 1) pc) := hsc.cell 1 (by omega)
    have f1 : wr.frozen? ⟨g, n * 8 + 1, none⟩ = false := hsc.frozen _
    clear hX hm
    go_upto_region 8 with fail
    by_cases hc1 : pc = 1
    · have hm0 : m = 0 := by omega
      have HQ0 := Lib.hid (HQ.out hm0)
      subst hc1
      subst hm0
      have HT1 := Lib.hid (hturn (wr.setCell ⟨g, n * 8 + 1, none⟩ (.slice (some ⟨pb, po, none⟩) 0 0)) (lv, .slice (some ⟨pb, po, none⟩) 0 0, ⟨sl, q, ss, sm⟩) (hsc.set 1 (by omega) _) (scl_set (World.grownBy.refl wr (some g))) ⟨hre.list.gw (scl_set (World.grownBy.refl wr (some g))), (by rw [HQ0.out]; exact rdG.nil _ _ _ _ _)⟩)
      have HRX := Lib.hid (rx.gw (scl_set (o := n * 8 + 1) (u := .slice (some ⟨pb, po, none⟩) 0 0) (World.grownBy.refl wr (some g))))
      have HRB := Lib.hid (hrb.far (p := ⟨g, n * 8 + 1, none⟩) (by show w.heap.size + 1 ≠ g; have := hst.base; omega) (.slice (some ⟨pb, po, none⟩) 0 0))
      have HBW := Lib.hid (hbw.setCell (p := ⟨g, n * 8 + 1, none⟩) (by show w.heap.size ≤ g; have := hst.base; omega) (.slice (some ⟨pb, po, none⟩) 0 0))
      clear hturn hsc hre hrb hbw hst rx rq
      go_upto_region 9 with fail
      generalize wr.setCell ⟨g, n * 8 + 1, none⟩ _ = W1 at *
      have hrw := HT1.out.row
      rw [show (ks ++ [((lv, .slice (some ⟨pb, po, none⟩) 0 0, ⟨sl, q, ss, sm⟩) : SE)]).length = n + 1 by rw [List.length_append, HNK.out]; rfl] at hrw
      have HRW := Lib.hid (hrw.alloc (.cells #[.slice xa X xc, .slice none 0 0, .int .i64 0, .int .i64 0, .int .i64 0, .int .i64 0, .int .i64 0, .int .i64 0] 55))
      have HZ := Lib.hid (cells8_new W1 (.slice xa X xc) (.slice none 0 0) (.int .i64 0) (.int .i64 0) (.int .i64 0) (.int .i64 0) (.int .i64 0) (.int .i64 0) 55)
      have hbs : w.heap.size + 2 ≤ (W1.alloc (.cells #[.slice xa X xc, .slice none 0 0, .int .i64 0, .int .i64 0, .int .i64 0, .int .i64 0, .int .i64 0, .int .i64 0] 55)).heap.size := by have h1 := HT1.out.base; have h2 := HT1.out.lt; simp; omega
      clear hrw
      go_wp2_with (at_builtin; go_must (refine wpList_append_own_at _ rfl _ _ 56 rfl (w.heap.size + 2) 55 i0 (.agg #[.slice none 0 0, .slice none 0 0, .int .i64 0, .int .i64 0, .int .i64 0, .int .i64 0, .int .i64 0, .int .i64 0]) 8 96 Tryz.underlying56 hi0 hz0 hz1 hz2 rfl (by decide) _ _ _ rfl HRW.out ⟨_, 0, none⟩ 1 1 [.slice xa X xc, .slice none 0 0, .int .i64 0, .int .i64 0, .int .i64 0, .int .i64 0, .int .i64 0, .int .i64 0] rfl rfl HZ.out (by simp [Value.oneCell']) (by unfold maxLen; omega) (by omega) hbs ?_); intro v' w4 ho4 hg4 _ hat4)
      have hba := (Below.refl W1.heap.size W1).alloc (Nat.le_refl _) (.cells #[.slice xa X xc, .slice none 0 0, .int .i64 0, .int .i64 0, .int .i64 0, .int .i64 0, .int .i64 0, .int .i64 0] 55)
      have hpush := (HT1.out.below hba).push (t := (.slice xa X xc, .slice none 0 0, Sc.new x)) (u := .slice (some ⟨g, 0, none⟩) (n + 1) cap) (by rw [List.length_append, HNK.out]; rfl) ⟨HRX.out.bel hba, rdG.nil _ _ _ _ _⟩ (by rw [show (ks ++ [((lv, .slice (some ⟨pb, po, none⟩) 0 0, ⟨sl, q, ss, sm⟩) : SE)]).length = n + 1 by rw [List.length_append, HNK.out]; rfl]; exact ho4) hg4 hat4
      obtain ⟨g', cap', hv', hst'⟩ := hpush
      subst hv'
      rw [show (ks ++ [((lv, .slice (some ⟨pb, po, none⟩) 0 0, ⟨sl, q, ss, sm⟩) : SE)]).length = n + 1 by rw [List.length_append, HNK.out]; rfl]
      have HST := Lib.hid hst'
      have HRB4 := Lib.hid ((HRB.out.alloc (.cells #[.slice xa X xc, .slice none 0 0, .int .i64 0, .int .i64 0, .int .i64 0, .int .i64 0, .int .i64 0, .int .i64 0] 55)).gwK (g := g) hg4 (by have := HT1.out.base; omega))
      have HB4 := Lib.hid (grown_belowM (g := g) (HBW.out.alloc HBW.out.size (.cells #[.slice xa X xc, .slice none 0 0, .int .i64 0, .int .i64 0, .int .i64 0, .int .i64 0, .int .i64 0, .int .i64 0] 55)) hg4 (by have := HBW.out.size; simp; omega) (by have := HT1.out.base; omega))
      clear ho4 hg4 hat4 hst' hba
      go_roundg (stN (Sc.new x :: ⟨sl, q, ss, sm⟩ :: (scs ks).reverse))
      case measure => rw [HGK.out]; exact stN_push (s := ⟨sl, x :: q, ss, sm⟩) rfl
      case rel =>
       refine ⟨ks ++ [(lv, .slice (some ⟨pb, po, none⟩) 0 0, ⟨sl, q, ss, sm⟩)], (.slice xa X xc, .slice none 0 0, Sc.new x), g', cap', by rw [scs_snoc], ?_, by rw [List.length_append, HNK.out]; rfl, HST.out, HRB4.out, ?_, ?_, HB4.out⟩
       · exact Nat.le_trans (Nat.le_of_lt (stN_push (s := ⟨sl, x :: q, ss, sm⟩) rfl)) (by rw [← HGK.out]; exact hgb)
       · obtain ⟨R, h1, h2⟩ := HUP.out
         obtain ⟨h3, h4⟩ := h2.push rfl
         exact ⟨zLs x, by show okUp Z ((ks ++ [_]).map _) _; rw [List.map_append]; exact (okUp_snoc _ _ _ _).2 ⟨R, h1, h3⟩, h4⟩
       · rw [scs_snoc]
         exact (stV_push (s := ⟨sl, x :: q, ss, sm⟩) rfl).symm.trans HVV.out
    · have hc2 : ¬ 1 = pc := fun e => hc1 e.symm
      have HT1 := Lib.hid (hturn (wr.setCell ⟨g, n * 8 + 1, none⟩ (.slice (some ⟨pb, po + 1, none⟩) m (pc - 1))) (lv, .slice (some ⟨pb, po + 1, none⟩) m (pc - 1), ⟨sl, q, ss, sm⟩) (hsc.set 1 (by omega) _) (scl_set (World.grownBy.refl wr (some g))) ⟨hre.list.gw (scl_set (World.grownBy.refl wr (some g))), rq.gw (scl_set (World.grownBy.refl wr (some g)))⟩)
      have HRX := Lib.hid (rx.gw (scl_set (o := n * 8 + 1) (u := .slice (some ⟨pb, po + 1, none⟩) m (pc - 1)) (World.grownBy.refl wr (some g))))
      have HRB := Lib.hid (hrb.far (p := ⟨g, n * 8 + 1, none⟩) (by show w.heap.size + 1 ≠ g; have := hst.base; omega) (.slice (some ⟨pb, po + 1, none⟩) m (pc - 1)))
      have HBW := Lib.hid (hbw.setCell (p := ⟨g, n * 8 + 1, none⟩) (by show w.heap.size ≤ g; have := hst.base; omega) (.slice (some ⟨pb, po + 1, none⟩) m (pc - 1)))
      clear hturn hsc hre hrb hbw hst rx rq
      go_upto_region 9 with fail
      generalize wr.setCell ⟨g, n * 8 + 1, none⟩ _ = W1 at *
      have hrw := HT1.out.row
      rw [show (ks ++ [((lv, .slice (some ⟨pb, po + 1, none⟩) m (pc - 1), ⟨sl, q, ss, sm⟩) : SE)]).length = n + 1 by rw [List.length_append, HNK.out]; rfl] at hrw
      have HRW := Lib.hid (hrw.alloc (.cells #[.slice xa X xc, .slice none 0 0, .int .i64 0, .int .i64 0, .int .i64 0, .int .i64 0, .int .i64 0, .int .i64 0] 55))
      have HZ := Lib.hid (cells8_new W1 (.slice xa X xc) (.slice none 0 0) (.int .i64 0) (.int .i64 0) (.int .i64 0) (.int .i64 0) (.int .i64 0) (.int .i64 0) 55)
      have hbs : w.heap.size + 2 ≤ (W1.alloc (.cells #[.slice xa X xc, .slice none 0 0, .int .i64 0, .int .i64 0, .int .i64 0, .int .i64 0, .int .i64 0, .int .i64 0] 55)).heap.size := by have h1 := HT1.out.base; have h2 := HT1.out.lt; simp; omega
      clear hrw
      go_wp2_with (at_builtin; go_must (refine wpList_append_own_at _ rfl _ _ 56 rfl (w.heap.size + 2) 55 i0 (.agg #[.slice none 0 0, .slice none 0 0, .int .i64 0, .int .i64 0, .int .i64 0, .int .i64 0, .int .i64 0, .int .i64 0]) 8 96 Tryz.underlying56 hi0 hz0 hz1 hz2 rfl (by decide) _ _ _ rfl HRW.out ⟨_, 0, none⟩ 1 1 [.slice xa X xc, .slice none 0 0, .int .i64 0, .int .i64 0, .int .i64 0, .int .i64 0, .int .i64 0, .int .i64 0] rfl rfl HZ.out (by simp [Value.oneCell']) (by unfold maxLen; omega) (by omega) hbs ?_); intro v' w4 ho4 hg4 _ hat4)
      have hba := (Below.refl W1.heap.size W1).alloc (Nat.le_refl _) (.cells #[.slice xa X xc, .slice none 0 0, .int .i64 0, .int .i64 0, .int .i64 0, .int .i64 0, .int .i64 0, .int .i64 0] 55)
      have hpush := (HT1.out.below hba).push (t := (.slice xa X xc, .slice none 0 0, Sc.new x)) (u := .slice (some ⟨g, 0, none⟩) (n + 1) cap) (by rw [List.length_append, HNK.out]; rfl) ⟨HRX.out.bel hba, rdG.nil _ _ _ _ _⟩ (by rw [show (ks ++ [((lv, .slice (some ⟨pb, po + 1, none⟩) m (pc - 1), ⟨sl, q, ss, sm⟩) : SE)]).length = n + 1 by rw [List.length_append, HNK.out]; rfl]; exact ho4) hg4 hat4
      obtain ⟨g', cap', hv', hst'⟩ := hpush
      subst hv'
      rw [show (ks ++ [((lv, .slice (some ⟨pb, po + 1, none⟩) m (pc - 1), ⟨sl, q, ss, sm⟩) : SE)]).length = n + 1 by rw [List.length_append, HNK.out]; rfl]
      have HST := Lib.hid hst'
      have HRB4 := Lib.hid ((HRB.out.alloc (.cells #[.slice xa X xc, .slice none 0 0, .int .i64 0, .int .i64 0, .int .i64 0, .int .i64 0, .int .i64 0, .int .i64 0] 55)).gwK (g := g) hg4 (by have := HT1.out.base; omega))
      have HB4 := Lib.hid (grown_belowM (g := g) (HBW.out.alloc HBW.out.size (.cells #[.slice xa X xc, .slice none 0 0, .int .i64 0, .int .i64 0, .int .i64 0, .int .i64 0, .int .i64 0, .int .i64 0] 55)) hg4 (by have := HBW.out.size; simp; omega) (by have := HT1.out.base; omega))
      clear ho4 hg4 hat4 hst' hba
      go_roundg (stN (Sc.new x :: ⟨sl, q, ss, sm⟩ :: (scs ks).reverse))
      case measure => rw [HGK.out]; exact stN_push (s := ⟨sl, x :: q, ss, sm⟩) rfl
      case rel =>
       refine ⟨ks ++ [(lv, .slice (some ⟨pb, po + 1, none⟩) m (pc - 1), ⟨sl, q, ss, sm⟩)], (.slice xa X xc, .slice none 0 0, Sc.new x), g', cap', by rw [scs_snoc], ?_, by rw [List.length_append, HNK.out]; rfl, HST.out, HRB4.out, ?_, ?_, HB4.out⟩
       · exact Nat.le_trans (Nat.le_of_lt (stN_push (s := ⟨sl, x :: q, ss, sm⟩) rfl)) (by rw [← HGK.out]; exact hgb)
       · obtain ⟨R, h1, h2⟩ := HUP.out
         obtain ⟨h3, h4⟩ := h2.push rfl
         exact ⟨zLs x, by show okUp Z ((ks ++ [_]).map _) _; rw [List.map_append]; exact (okUp_snoc _ _ _ _).2 ⟨R, h1, h3⟩, h4⟩
       · rw [scs_snoc]
         exact (stV_push (s := ⟨sl, x :: q, ss, sm⟩) rfl).symm.trans HVV.out
   | nil =>
    cases sl with
    | cons c l =>
     have hokc : okCx c ∧ okLs l := by
      obtain ⟨R, _, h2⟩ := HUP.out
      have h3 := h2.okl
      rw [okLs] at h3
      exact h3
     have l0 : wr.cell? ⟨g, n * 8, none⟩ = some lv := hsc.cell 0 (by omega)
     have i1 : wr.cell? ⟨g, n * 8 + 1, none⟩ = some iv := hsc.cell 1 (by omega)
     obtain ⟨ia, ic, hiv, _⟩ := hre.inner.shape
     have hiv : iv = .slice ia 0 ic := hiv
     subst hiv
     obtain ⟨la, lc, hlv, _⟩ := hre.list.shape
     rw [cxsDt_len] at hlv
     have hlv : lv = .slice la (l.length + 1) lc := hlv
     subst hlv
     have HNX := Lib.hid (next_any hsc hre.list hokc.1 ⟨_, _, _, rfl⟩)
     have HTURN := Lib.hid hturn
     have HRB := Lib.hid hrb
     have HBW := Lib.hid hbw
     have HBS := Lib.hid hst.base
     have HLT := Lib.hid hst.lt
     have hll : (0 : Int) < ((l.length : Nat) : Int) + 1 := by omega
     clear hturn hsc hre hrb hbw hst
     go_wp2_with (go_at_call 18; go_must (refine HNX.out.mono ?_); intro e w4 hq; obtain ⟨⟨rv, he⟩, lv', iv', hs', rl', ri', hg'⟩ := hq; subst he)
     have HST := Lib.hid (HTURN.out w4 (lv', iv', ⟨l, (bareCx c).2, (bareCx c).1, gr3 ss sm⟩) hs' hg' ⟨rl', ri'⟩)
     have HRB4 := Lib.hid (HRB.out.gwK hg' (by have := HBS.out; omega))
     have HB4 := Lib.hid (grown_belowM HBW.out hg' HBW.out.size (by have := HBS.out; omega))
     clear hs' rl' ri' hg'
     go_roundg (stN (⟨l, (bareCx c).2, (bareCx c).1, gr3 ss sm⟩ :: (scs ks).reverse))
     case measure => rw [HGK.out]; exact stN_next (s := ⟨c :: l, [], ss, sm⟩) rfl
     case rel =>
      refine ⟨ks, (lv', iv', ⟨l, (bareCx c).2, (bareCx c).1, gr3 ss sm⟩), g, cap, rfl, ?_, by rw [HNK.out], HST.out, HRB4.out, ?_, ?_, HB4.out⟩
      · exact Nat.le_trans (Nat.le_of_lt (stN_next (s := ⟨c :: l, [], ss, sm⟩) rfl)) (by rw [← HGK.out]; exact hgb)
      · obtain ⟨R, h1, h2⟩ := HUP.out
        exact ⟨R, h1, h2.next rfl⟩
      · exact (stV_next (s := ⟨c :: l, [], ss, sm⟩) rfl rfl).symm.trans HVV.out
    | nil =>
     have l0 : wr.cell? ⟨g, n * 8, none⟩ = some lv := hsc.cell 0 (by omega)
     have i1 : wr.cell? ⟨g, n * 8 + 1, none⟩ = some iv := hsc.cell 1 (by omega)
     obtain ⟨ia, ic, hiv, _⟩ := hre.inner.shape
     have hiv : iv = .slice ia 0 ic := hiv
     subst hiv
     obtain ⟨la, lc, hlv, _⟩ := hre.list.shape
     rw [cxsDt_len] at hlv
     have hlv : lv = .slice la 0 lc := hlv
     subst hlv
     have HGR := Lib.hid (great_any (o := n * 8) hsc.lt (hsc.cell 2 (by omega)) (hsc.cell 3 (by omega)) (hsc.cell 4 (by omega)) (hsc.cell 5 (by omega)) (hsc.cell 6 (by omega)) (hsc.cell 7 (by omega)))
     rcases List.eq_nil_or_concat ks with hks | ⟨ks', s', hks⟩
     · have hn0 : n = 0 := by rw [← HNK.out, hks]; rfl
       have HVE := Lib.hid (show gr3 ss sm = V by
        have h1 := HVV.out
        rw [hks] at h1
        exact (stV_end (t := ⟨[], [], ss, sm⟩) rfl rfl).symm.trans h1)
       have b1 : (((n : Int) + 1) == 1) = true := by rw [hn0]; rfl
       have HRB := Lib.hid hrb
       have HBW := Lib.hid hbw
       clear hks hn0 hturn hsc hre hrb hbw hst
       go_upto_region 13 with fail
       rw [HVE.out] at HGR
       go_wp2_with (go_at_call 19; go_must (refine HGR.out.mono ?_); intro e w4 hq; obtain ⟨he, hb4⟩ := hq; subst he; have HR4 := Lib.hid (HRB.out.below hb4 HRB.out.lt); have z0 : w4.cell? ⟨w.heap.size + 1, 0, none⟩ = some (.int .i64 0) := HR4.out.cell 0; have z1 : w4.cell? ⟨w.heap.size + 1, 1, none⟩ = some (.int .i64 0) := HR4.out.cell 1; have z2 : w4.cell? ⟨w.heap.size + 1, 2, none⟩ = some (.int .i64 0) := HR4.out.cell 2; have f0 : w4.frozen? ⟨w.heap.size + 1, 0, none⟩ = false := HR4.out.frozen _; have f1 : w4.frozen? ⟨w.heap.size + 1, 1, none⟩ = false := HR4.out.frozen _; have f2 : w4.frozen? ⟨w.heap.size + 1, 2, none⟩ = false := HR4.out.frozen _)
       have hb5 := HBW.out.trans (hb4.mono HBW.out.size)
       exact bodyPost_ret (v := .agg #[.int .i64 V.a, .int .i64 V.b, .int .i64 V.c]) (results_cell_row (by rfl) _ _ (w.heap.size + 1) _ _ _ _ (by rfl) (HR4.out.w3 V) Tryz.underlying37 (by rfl) w3_size) rfl ⟨rfl, ((hb5.setCell (p := ⟨w.heap.size + 1, 0, none⟩) (Nat.le_succ _) _).setCell (p := ⟨w.heap.size + 1, 1, none⟩) (Nat.le_succ _) _).setCell (p := ⟨w.heap.size + 1, 2, none⟩) (Nat.le_succ _) _⟩
     · rw [List.concat_eq_append] at hks
       subst hks
       obtain ⟨n', hn'⟩ : ∃ n', ks'.length = n' := ⟨_, rfl⟩
       have hnn : n = n' + 1 := by rw [← HNK.out, List.length_append, hn']; rfl
       have hna : n ≤ n' + 1 := Nat.le_of_eq hnn
       have hnb : n' + 1 ≤ n := Nat.le_of_eq hnn.symm
       have HNN := Lib.hid hnn
       have HNP := Lib.hid hn'
       have hncap : n ≤ cap := by
        obtain ⟨_, _, _, h3, _⟩ := hst.own
        rw [List.length_append, HNK.out] at h3
        simp at h3
        omega
       have b1 : (((n : Int) + 1) == 1) = false := by simp; omega
       have hst2 := hst.pop
       have HG8 := Lib.hid hst.base
       have HGL := Lib.hid hst.lt
       have HRB := Lib.hid hrb
       have HBW := Lib.hid hbw
       obtain ⟨lv2, iv2, s2⟩ := s'
       obtain ⟨X, hX⟩ : ∃ X, gr3 ss sm = X := ⟨_, rfl⟩
       have HX := Lib.hid hX
       obtain ⟨R0, hu1, hu2⟩ := HUP.out
       have hu3 := hu1
       unfold scs at hu3
       rw [List.map_append] at hu3
       obtain ⟨R1, hu4, hu5⟩ := (okUp_snoc _ _ _ _).1 hu3
       have hwrap := hu5.pop_wrap hu2 (by
        have : R1 ≤ Z := okUp_le _ _ _ hu4
        omega)
       have HPOP := Lib.hid (hu5.pop hu2)
       have HUP4 := Lib.hid hu4
       have HWR := Lib.hid hwrap
       rw [hX] at HGR
       have HST2 := Lib.hid hst2
       clear hu1 hu2 hu3 hu4 hu5 hwrap hX hn' hnn hturn hsc hre hrb hbw hst hst2
       go_upto_region 4 with (go_at_call 19; go_must (refine HGR.out.mono ?_); intro e w4 hq; obtain ⟨he, hb4⟩ := hq; subst he)
       have hba := hb4.trans (((Below.refl w4.heap.size w4).alloc (Nat.le_refl _) (.cells X.cs 37)).mono hb4.size)
       have HMB := Lib.hid (CB.new (T := 37) w4 X.cs)
       have HST3 := Lib.hid (HST2.out.below hba)
       have HRB3 := Lib.hid (HRB.out.below hba HRB.out.lt)
       have HB3 := Lib.hid (HBW.out.trans (hba.mono HBW.out.size))
       have HNE := Lib.hid (show w4.heap.size ≠ g by have := HGL.out; have := hb4.size; omega)
       clear hba hb4 HGR
       generalize hmb : w4.heap.size = mb at *
       clear hmb
       have hnm : (n : Int) - 1 = (n' : Int) := by omega
       have hnm2 : (n' : Int) < (n : Int) := by omega
       go_upto_region 5 with fail
       have hwn : IntKind.i64.wrap (n' : Int) = (n' : Int) := by rw [IntKind.wrap_i64]; omega
       have hn0' : (0 : Int) ≤ (n' : Int) := by omega
       generalize w4.alloc (.cells _ 37) = W5 at *
       refine wp_region_held_drew (S := fun W => CB 37 W mb X.cs) (by kernel_rfl) HMB.out (fun hHeld => ?_)
       have hbd : Below W5.heap.size W5 W5.drew := (Below.refl W5.heap.size W5).drew
       have HST6 := Lib.hid (HST3.out.below hbd)
       have HRB6 := Lib.hid (HRB3.out.below hbd HRB3.out.lt)
       have HB6 := Lib.hid HB3.out.drew
       clear hbd
       generalize W5.drew = W6 at *
       refine wTake 0 (v := ?_) rfl (Or.inl ⟨by rfl, ?_⟩) ?_
       rotate_left
       · intro W hSw
         go_simp
         all_goals with_reducible rfl
       try simp only [gA, gB, gC, gD, gE, gF, gG]
       refine wTake 1 (v := ?_) rfl (Or.inl ⟨by rfl, ?_⟩) ?_
       rotate_left
       · intro W hSw
         go_simp
         all_goals with_reducible rfl
       try simp only [gA, gB, gC, gD, gE, gF, gG]
       refine wTake 2 (v := ?_) rfl (Or.inl ⟨by rfl, ?_⟩) ?_
       rotate_left
       · intro W hSw
         go_simp
         all_goals with_reducible rfl
       try simp only [gA, gB, gC, gD, gE, gF, gG]
       refine wTake 3 (v := ?_) rfl (Or.inl ⟨by rfl, ?_⟩) ?_
       rotate_left
       · intro W hSw
         go_simp
         all_goals with_reducible rfl
       try simp only [gA, gB, gC, gD, gE, gF, gG]
       refine wTake 4 (v := ?_) rfl (Or.inl ⟨by rfl, ?_⟩) ?_
       rotate_left
       · intro W hSw
         go_simp
         all_goals with_reducible rfl
       try simp only [gA, gB, gC, gD, gE, gF, gG]
       refine wTake 5 (v := ?_) rfl (Or.inl ⟨by rfl, ?_⟩) ?_
       rotate_left
       · intro W hSw
         have x0 : W.cell? ⟨mb, 0, none⟩ = some (.int .i64 X.a) := hSw.cell 0
         have x1 : W.cell? ⟨mb, 1, none⟩ = some (.int .i64 X.b) := hSw.cell 1
         have x2 : W.cell? ⟨mb, 2, none⟩ = some (.int .i64 X.c) := hSw.cell 2
         go_simp
         all_goals with_reducible rfl
       try simp only [gA, gB, gC, gD, gE, gF, gG]
       refine wpAnyH_ready (rs := [6]) (by kernel_rfl) (by simp) ?_
       refine AllReadyH.cons (o := _) rfl (fun K hK => ?_) AllReadyH.nil
       simp only [List.getElem_toArray, List.getElem_cons_zero, List.getElem_cons_succ]
       rw [if_pos (by rfl)]
       go_simp
       obtain ⟨cur2, hsc2, hturn2⟩ := HST6.out.turn
       rw [HNP.out] at hsc2 hturn2
       clear hwn hn0'
       refine (wadd_any (o := n' * 8) (s := s2.sum) (x := X) hsc2.lt (hsc2.cell 2 (by omega)) (hsc2.cell 3 (by omega)) (hsc2.cell 4 (by omega)) (hsc2.frozen _) (hsc2.frozen _) (hsc2.frozen _) (by rw [← HX.out]; exact HWR.out.1) (by rw [← HX.out]; exact HWR.out.2.1) (by rw [← HX.out]; exact HWR.out.2.2)).mono ?_
       rintro e w7 ⟨⟨rv, rfl⟩, A, hA, rfl⟩
       have hgA := gb_below hA (some g)
       have hg7 : W6.grownBy (A.setCells g (n' * 8 + 2) [.int .i64 (s2.sum.a + X.a), .int .i64 (s2.sum.b + X.b), .int .i64 (s2.sum.c + X.c)]) (some g) := scl_set (scl_set (scl_set hgA))
       have hs7 : ScI 55 (A.setCells g (n' * 8 + 2) [.int .i64 (s2.sum.a + X.a), .int .i64 (s2.sum.b + X.b), .int .i64 (s2.sum.c + X.c)]) g (n' * 8) cur2 (sck (lv2, iv2, { s2 with sum := s2.sum.add X })) := (((hsc2.below hA).set 2 (by omega) (.int .i64 (s2.sum.a + X.a))).set 3 (by omega) (.int .i64 (s2.sum.b + X.b))).set 4 (by omega) (.int .i64 (s2.sum.c + X.c))
       have hre2 := HST6.out.rd (lv2, iv2, s2) (by simp)
       have HST7 := Lib.hid (hturn2 _ (lv2, iv2, { s2 with sum := s2.sum.add X }) hs7 hg7 ⟨hre2.list.gw hg7, hre2.inner.gw hg7⟩)
       have HRB7 := Lib.hid (HRB6.out.gwK hg7 (by have := HG8.out; omega))
       have HB7 := Lib.hid (grown_belowM HB6.out hg7 HB6.out.size (by have := HG8.out; omega))
       have hS7 := hHeld.gwK hg7 HNE.out
       clear hgA hg7 hs7 hre2 hsc2 hturn2 hA hHeld
       generalize A.setCells g (n' * 8 + 2) _ = W7 at *
       go_simp
       refine hK.out _ _ hS7 (fun hHeld => ?_)
       clear hK K
       try simp only [gA, gB, gC, gD, gE, gF, gG]
       refine wpAnyH_done (by kernel_rfl) ?_ _
       go_wp2
       go_roundg (stN ({ s2 with sum := s2.sum.add X } :: (scs ks').reverse))
       case measure => rw [HGK.out, scs_snoc]; exact stN_pop (t := ⟨[], [], ss, sm⟩) (s := s2) _
       case rel =>
        refine ⟨ks', (lv2, iv2, { s2 with sum := s2.sum.add X }), g, cap, rfl, ?_, by rw [HNP.out, ← HNN.out], HST7.out, HRB7.out, ?_, ?_, HB7.out⟩
        · have h1 := HGK.out
          rw [scs_snoc] at h1
          have h2 : stN ({ s2 with sum := s2.sum.add X } :: (scs ks').reverse) < stN (Sc.mk [] [] ss sm :: s2 :: (scs ks').reverse) := stN_pop (t := ⟨[], [], ss, sm⟩) (s := s2) (r := (scs ks').reverse) _
          have h1 : gk = stN (Sc.mk [] [] ss sm :: s2 :: (scs ks').reverse) := h1
          omega
        · exact ⟨R1, HUP4.out, by rw [← HX.out]; exact HPOP.out⟩
        · rw [← HVV.out, scs_snoc, ← HX.out]
          exact (stV_pop (t := ⟨[], [], ss, sm⟩) (s := s2) rfl rfl).symm
end Go.Proofs.YtclicjiakkcfcaaGreatDoor
