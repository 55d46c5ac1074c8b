import Derived.Test.YtclicjiakkcfcaaGreatDoorSlV
import Derived.Deep.RegionWith
set_option maxRecDepth 100000
set_option maxHeartbeats 6400000
namespace Go.Proofs.YtclicjiakkcfcaaGreatDoor
open Go.RowKit
def ChainPost (b : Nat) (w : World) (r : Option CxD) (e : Ending) (w' : World) : Prop :=
 ∃ Pt Cb ps u1 u2, e = .returned (.tuple #[.agg (cxC u1 u2 ps), .bool r.isSome]) ∧ rdG w' (fun g => w.heap.size ≤ g) (.sl 2 (cmsDt Pt)) u1 ∧ rdG w' (fun g => w.heap.size ≤ g) (.sl 1 (cbDt Cb)) u2 ∧ (∀ c, r = some c → c = .mk Pt Cb ps) ∧ Gw b w w'
theorem big_le : (100000000 : Nat) ≤ 1000000000 := by omega
theorem cx_one (a : Option Addr) (n c : Nat) (a2 : Option Addr) (n2 c2 : Nat) (s : Int) : (cxC (.slice a n c) (.slice a2 n2 c2) s).all (·.oneCell') = true := by kernel_rfl
def lenAt (g : Nat) (w : World) : Nat := match w.cell? ⟨g, 0, none⟩ with
 | some (.slice _ n _) => n
 | _ => 0
section
variable {P : Nat → Prop} {w W : World} {b : Nat} {v : Value} {l : List Nd} {dp : Int} {B gc : Nat} {sv1 : Value} {ks1 : List (List Value × List Dt)} {sv2 : Value} {ks2 : List (List Value × List Dt)} {ps : Int} {i j : Nat}
theorem ChI.len (h : ChI P w b v l dp B gc sv1 ks1 sv2 ks2 ps j W) : lenAt gc W = ks1.length := by
 obtain ⟨a, c, rfl, _⟩ := h.g1
 unfold lenAt
 rw [show W.cell? ⟨gc, 0, none⟩ = some (.slice a ks1.length c) from h.c.cell 0]
theorem ChI.init (h : SN P w b v l dp i w) (ht : TabL w) : ChI P w b v l dp ((w.alloc (.cells cxZ 35)).heap.size + 1) (w.alloc (.cells cxZ 35)).heap.size (.slice none 0 0) [] (.slice none 0 0) [] 0 i ((w.alloc (.cells cxZ 35)).alloc (.cells cxZ 35)) := by
 have hb1 := (Below.refl w.heap.size w).alloc (Nat.le_refl _) (.cells cxZ 35)
 have hb2 := hb1.alloc hb1.size (.cells cxZ 35)
 have hsz : (w.alloc (.cells cxZ 35)).heap.size = w.heap.size + 1 := by simp
 exact ⟨h.below hb2, (CB.new w cxZ).alloc _, CB.new _ _, LsG.nil _ _ _ _ _, LsG.nil _ _ _ _ _, (fun g hg => by cases hg), ht.below hb2, by omega, Nat.lt_succ_self _, by simp⟩
end
theorem chain_row {c : CxD} {t : Bool} {R : Option CxD} (h : R = if t = true then some c else none) : R.isSome = t ∧ ∀ d, R = some d → d = c := by
 subst h
 cases t
 · exact ⟨rfl, fun d h => by cases h⟩
 · exact ⟨rfl, fun d h => by cases h; rfl⟩
theorem schain_any {P : Nat → Prop} {w0 w : World} {b : Nat} {v : Value} {l : List Nd} {dp : Int} {i : Nat} {fn : FnS} (h0 : SN P w0 b v l dp i w) (hi : i ≤ l.length + 1) (hx : txD l) (ht : TabL w) (hbt : TabFar b) (hd0 : 0 ≤ dp) (hd1 : dp ≤ 10) (hF : FnOk fn (dp + 1)) {top : Bool} (htop : (dp == 0) = top) :
    Calls Tryz.prog 26 #[.pointer (some ⟨b, 0, none⟩)] w (ChainPost b w (chainW fn top (l.drop i))) := by
  have h := h0.now
  have hll := h.len
  obtain ⟨i0, hi0, hz0, hz1, hz2⟩ := info_parts info_cmp
  obtain ⟨t0, ht0, tz0, tz1, tz2⟩ := info_parts info_txt
  obtain ⟨R, hR⟩ : ∃ R, chainW fn top (l.drop i) = R := ⟨_, rfl⟩
  obtain ⟨X, hX⟩ : ∃ X, chainF fn top 9 [] [] (whiteR (l.drop i)) = X := ⟨_, rfl⟩
  have HTL := Lib.hid ht.lt
  have HX0 := Lib.hid hX
  have HRX : Hid (X = R) := hX.symm.trans hR
  rw [hR]
  have HINIT := Lib.hid (ChI.init h ht)
  have HWH0 := Lib.hid (fun (W : World) (hW : SN P W b v l dp i W) => swhite_any hW)
  clear h h0 hR ht hX
  unfold ChainPost
  go_enter Tryz.func26, Tryz.ntmps26
  go_upto_region 1 with fail
  generalize w.alloc (.cells cxZ 35) = W0 at *
  go_upto_region 2 with fail
  generalize W0.alloc (.cells cxZ 35) = W1 at *
  generalize W0.heap.size = gc at *
  go_wp2_with (go_at_call 37; (refine (HWH0.out _ HINIT.out.sn.now).mono ?_); rintro e w2 ⟨rfl, j0, hj0, hw0, hjl0, hs2⟩; have HI0 := Lib.hid (HINIT.out.moved hs2 hbt); clear hs2)
  rw [hw0] at HX0
  have hjl0 : j0 ≤ l.length + 1 := by
   by_cases c : i < j0
   · have := hjl0 c
     omega
   · omega
  go_loopw [] (fun wr => ∃ parts combs sv1 ks1 sv2 ks2 j, ChI P w b v l dp (gc + 1) gc sv1 ks1 sv2 ks2 0 j wr ∧ ks1.map Prod.snd = cmsDt parts ∧ ks2.map Prod.snd = cbDt combs ∧ parts.length ≤ 8 ∧ combs.length ≤ parts.length ∧ j ≤ l.length + 1 ∧ chainF fn top (9 - parts.length) parts combs (l.drop j) = X) (fun wr => 9 - lenAt gc wr)
  case atStart => exact ⟨[], [], _, _, _, _, j0, HI0.out, by rw [cmsDt]; rfl, rfl, Nat.zero_le _, Nat.le_refl _, hjl0, HX0.out⟩
  case round =>
   obtain ⟨parts, combs, sv1, ks1, sv2, ks2, j, hI, hm1, hm2, hp8, hcp, hjl, hXj⟩ := hrel
   clear HI0 HINIT HWH0 HX0 hw0 hj0 hjl0
   have HM1 := Lib.hid hm1
   have HM2 := Lib.hid hm2
   have hk1 : ks1.length = parts.length := by
    have h := congrArg List.length hm1
    rw [List.length_map, cmsDt_len] at h
    exact h
   have hk2 : ks2.length = combs.length := by
    have h := congrArg List.length hm2
    rw [List.length_map, List.length_map] at h
    exact h
   obtain ⟨oa1, oc1, rfl, hoc1⟩ := hI.g1
   obtain ⟨oa2, oc2, rfl, hoc2⟩ := hI.g2
   obtain ⟨m1, hkm1⟩ : ∃ m, ks1.length = m := ⟨_, rfl⟩
   obtain ⟨m2, hkm2⟩ : ∃ m, ks2.length = m := ⟨_, rfl⟩
   rw [hkm1] at hI hk1 hoc1
   rw [hkm2] at hI hk2 hoc2
   have HK1 := Lib.hid hkm1
   have HK2 := Lib.hid hkm2
   have HL1 := Lib.hid hk1
   have hm18 : m1 ≤ 8 := by omega
   have hm28 : m2 ≤ 8 := by omega
   have HI := Lib.hid hI
   have HCM := Lib.hid (fun (W : World) (hW : SN P W b v l dp j W) (hT : TabL W) => scomp_any (fn := fn) hW hjl hx hT hbt hd0 hd1 hF)
   unfold CompPost at HCM
   obtain ⟨q, hq9⟩ : ∃ q, 9 - parts.length = q + 1 := ⟨8 - parts.length, by omega⟩
   rw [hq9] at hXj
   obtain ⟨C, hC⟩ : ∃ C, compW fn (l.drop j) = C := ⟨_, rfl⟩
   rw [hC] at HCM
   clear hm1 hm2 hkm1 hkm2 hI hk1 hk2
   cases C with
   | none =>
    have HRE : Hid (R = none) := by
     show _ = _
     rw [← HRX.out, ← hXj, chain_none hC]
    clear hXj hC
    go_upto_region 4 with (go_at_call 38; (refine (HCM.out _ HI.out.sn.now HI.out.tab).mono ?_); rintro e w3 ⟨t, S, u, rfl, hr, hq, j', hs3, hj'⟩; obtain ⟨ya, yc, rfl, _⟩ := hr.shape; have HI4 := Lib.hid ((HI.out.moved hs3 hbt).below ((Below.refl w3.heap.size w3).alloc (Nat.le_refl _) (.cells (cmpC t (.slice ya (smsDt S).length yc)) 70))); have HY4 := Lib.hid (CB.new (T := 70) w3 (cmpC t (.slice ya (smsDt S).length yc))); have HR4 := Lib.hid (hr.under ((Below.refl w3.heap.size w3).alloc (Nat.le_refl _) (.cells (cmpC t (.slice ya (smsDt S).length yc)) 70)) (Nat.le_refl _)); clear hr hs3)
    generalize w3.alloc (.cells _ 70) = W5 at *
    generalize w3.heap.size = gy at *
    have z0 : W5.cell? ⟨w.heap.size, 0, none⟩ = some (.slice none 0 0) := HI4.out.z.cell 0
    have zf0 : W5.frozen? ⟨w.heap.size, 0, none⟩ = false := HI4.out.z.frozen 0
    have z1 : W5.cell? ⟨w.heap.size, 1, none⟩ = some (.slice none 0 0) := HI4.out.z.cell 1
    have zf1 : W5.frozen? ⟨w.heap.size, 1, none⟩ = false := HI4.out.z.frozen 1
    have z2 : W5.cell? ⟨w.heap.size, 2, none⟩ = some (.int .i64 0) := HI4.out.z.cell 2
    have zf2 : W5.frozen? ⟨w.heap.size, 2, none⟩ = false := HI4.out.z.frozen 2
    go_wp2
    exact bodyPost_ret (v := .tuple #[.agg (cxC (.slice none 0 0) (.slice none 0 0) 0), .bool false]) (results_cellT (by rfl) _ _ w.heap.size _ _ _ _ _ (by rfl) (by rfl) (HI4.out.ret (.slice none 0 0) (.slice none 0 0) 0).1 Tryz.underlying35 (by rfl) cx_size) rfl ⟨[], [], _, _, _, by rw [HRE.out]; rfl, by rw [cmsDt]; exact rdG.nil _ _ _ _ _, rdG.nil _ _ _ _ _, (fun c h => by rw [HRE.out] at h; cases h), (HI4.out.ret _ _ _).2.1⟩
   | some pr =>
    obtain ⟨p, r1⟩ := pr
    by_cases h8 : parts.length = 8
    · have HRE : Hid (R = none) := by
       show _ = _
       rw [← HRX.out, ← hXj, chain_full hC h8]
      clear hXj hC
      obtain rfl : m1 = 8 := by have := HL1.out; omega
      go_upto_region 4 with (go_at_call 38; (refine (HCM.out _ HI.out.sn.now HI.out.tab).mono ?_); rintro e w3 ⟨t, S, u, rfl, hr, hq, j', hs3, hj'⟩; obtain ⟨ya, yc, rfl, _⟩ := hr.shape; have HI4 := Lib.hid ((HI.out.moved hs3 hbt).below ((Below.refl w3.heap.size w3).alloc (Nat.le_refl _) (.cells (cmpC t (.slice ya (smsDt S).length yc)) 70))); have HY4 := Lib.hid (CB.new (T := 70) w3 (cmpC t (.slice ya (smsDt S).length yc))); have HR4 := Lib.hid (hr.under ((Below.refl w3.heap.size w3).alloc (Nat.le_refl _) (.cells (cmpC t (.slice ya (smsDt S).length yc)) 70)) (Nat.le_refl _)); clear hr hs3)
      generalize w3.alloc (.cells _ 70) = W5 at *
      generalize w3.heap.size = gy at *
      have z0 : W5.cell? ⟨w.heap.size, 0, none⟩ = some (.slice none 0 0) := HI4.out.z.cell 0
      have zf0 : W5.frozen? ⟨w.heap.size, 0, none⟩ = false := HI4.out.z.frozen 0
      have z1 : W5.cell? ⟨w.heap.size, 1, none⟩ = some (.slice none 0 0) := HI4.out.z.cell 1
      have zf1 : W5.frozen? ⟨w.heap.size, 1, none⟩ = false := HI4.out.z.frozen 1
      have z2 : W5.cell? ⟨w.heap.size, 2, none⟩ = some (.int .i64 0) := HI4.out.z.cell 2
      have zf2 : W5.frozen? ⟨w.heap.size, 2, none⟩ = false := HI4.out.z.frozen 2
      have x0 : W5.cell? ⟨gc, 0, none⟩ = some (.slice oa1 8 oc1) := HI4.out.c.cell 0
      go_wp2
      exact bodyPost_ret (v := .tuple #[.agg (cxC (.slice none 0 0) (.slice none 0 0) 0), .bool false]) (results_cellT (by rfl) _ _ w.heap.size _ _ _ _ _ (by rfl) (by rfl) (HI4.out.ret (.slice none 0 0) (.slice none 0 0) 0).1 Tryz.underlying35 (by rfl) cx_size) rfl ⟨[], [], _, _, _, by rw [HRE.out]; rfl, by rw [cmsDt]; exact rdG.nil _ _ _ _ _, rdG.nil _ _ _ _ _, (fun c h => by rw [HRE.out] at h; cases h), (HI4.out.ret _ _ _).2.1⟩
    · have hm16 : ((m1 : Int) == 8) = false := beq_false_of_ne (by have := HL1.out; omega)
      have hm16b : ¬ (m1 : Int) = 8 := by have := HL1.out; omega
      go_upto_region 4 with (go_at_call 38; (refine (HCM.out _ HI.out.sn.now HI.out.tab).mono ?_); rintro e w3 ⟨t, S, u, rfl, hr, hq, j', hs3, hj'⟩; obtain ⟨ya, yc, rfl, _⟩ := hr.shape; have HI4 := Lib.hid ((HI.out.moved hs3 hbt).below ((Below.refl w3.heap.size w3).alloc (Nat.le_refl _) (.cells (cmpC t (.slice ya (smsDt S).length yc)) 70))); have HY4 := Lib.hid (CB.new (T := 70) w3 (cmpC t (.slice ya (smsDt S).length yc))); have HR4 := Lib.hid (hr.under ((Below.refl w3.heap.size w3).alloc (Nat.le_refl _) (.cells (cmpC t (.slice ya (smsDt S).length yc)) 70)) (Nat.le_refl _)); clear hr hs3)
      generalize w3.alloc (.cells _ 70) = W5 at *
      generalize w3.heap.size = gy at *
      have x0 : W5.cell? ⟨gc, 0, none⟩ = some (.slice oa1 m1 oc1) := HI4.out.c.cell 0
      have y0 : W5.cell? ⟨gy, 0, none⟩ = some (.string t) := HY4.out.cell 0
      have y1 : W5.cell? ⟨gy, 1, none⟩ = some (.slice ya (smsDt S).length yc) := HY4.out.cell 1
      have HI6 := Lib.hid (HI4.out.below ((Below.refl W5.heap.size W5).alloc (Nat.le_refl _) (.cells (cmpC t (.slice ya (smsDt S).length yc)) 70)))
      have HNEW := Lib.hid (cmp_news W5 t (.slice ya (smsDt S).length yc) 70)
      have HRW := Lib.hid HI6.out.row1.row
      rw [HK1.out] at HRW
      have HR6 := Lib.hid (HR4.out.under ((Below.refl W5.heap.size W5).alloc (Nat.le_refl _) (.cells (cmpC t (.slice ya (smsDt S).length yc)) 70)) (Nat.le_refl _))
      obtain ⟨hj1, hj2, hj3, hj4⟩ := hj' p r1 rfl
      obtain rfl := hq p r1 rfl
      clear hj' hq
      go_upto_region 7 with (at_builtin; refine wpList_append_lies _ rfl _ _ 33 rfl (gc + 1) 70 i0 (.agg cmpZ) 2 40 Tryz.underlying33 hi0 hz0 hz1 hz2 rfl (by decide) (.slice oa1 m1 oc1) m1 (ks1.flatMap Prod.fst) rfl HRW.out ⟨_, 0, none⟩ 1 1 (cmpC t (.slice ya (smsDt S).length yc)).toList rfl rfl HNEW.out (cmp_oneL _ _ _ _) (by decide) (by unfold maxLen; omega) (by omega) HI6.out.o3 _ rfl ?_; intro g cap w7 hown7 hgrow7 hat7 hlt7; have HRS := Lib.hid (HI6.out.rest HTL.out hgrow7 (fun q hq => (World.ownsRow.lt HRW.out q hq).1)); have xz : w7.cell? ⟨gc, 0, none⟩ = some (.slice oa1 m1 oc1) := HRS.out.2.2.1.cell 0; have xzf : w7.frozen? ⟨gc, 0, none⟩ = false := HRS.out.2.2.1.frozen 0)
      have hce := cmp_cells (HR6.out.weak (Q := fun g => (gc + 1 ≤ g ∧ (Value.slice oa2 m2 oc2).ownBlock ≠ some g) ∧ (Value.slice oa1 m1 oc1).ownBlock ≠ some g) fun g _ hg => ⟨⟨Nat.le_trans HI.out.o3 hg, fun e => by have h1 := (World.ownsRow.lt HI.out.row2.row g e).2; omega⟩, fun e => by have h1 := (World.ownsRow.lt HI.out.row1.row g e).2; omega⟩) t
      have hpush := HI6.out.row1.push HK1.out hown7 hgrow7 hat7 hce
      have HIN := Lib.hid (HI6.out.push1 HTL.out hgrow7 hat7 hpush)
      clear hpush hce x0 y0 y1 xz xzf hown7 hgrow7 hat7 HR6 HRW HNEW HI6 HR4 HY4 HI4 HRS
      generalize World.setCell _ _ _ = W8 at *
      have HM1' : Hid ((ks1 ++ [((cmpC t (.slice ya (smsDt S).length yc)).toList, (CmD.mk t S).dt)]).map Prod.snd = cmsDt (parts ++ [.mk t S])) := by
       show _ = _
       rw [List.map_append, HM1.out, cmsDt_map, cmsDt_map, List.map_append]
       rfl
      have HK1' : Hid ((ks1 ++ [((cmpC t (.slice ya (smsDt S).length yc)).toList, (CmD.mk t S).dt)]).length = m1 + 1) := by
       show _ = _
       rw [List.length_append, HK1.out]
       rfl
      generalize ks1 ++ [((cmpC t (.slice ya (smsDt S).length yc)).toList, (CmD.mk t S).dt)] = ks3 at *
      have HEL := Lib.hid (fun (W : World) (hW : SN P w b v l dp j' W) (hT : TabL W) => selement_any hW hT hx.top)
      obtain ⟨⟨wh, nd⟩, hel⟩ : ∃ q, elementR (l.drop j') = q := ⟨_, rfl⟩
      have hlt := elementR_lt (l := l) (j := j')
      rw [hel] at HEL hlt
      by_cases hn : 0 < nd
      · obtain ⟨s, hs⟩ : ∃ s, j' + nd = s := ⟨_, rfl⟩
        have hlt := hlt hn
        have hwr1 : IntKind.i64.wrap ((j' : Int) + (nd : Int)) = (s : Int) := by rw [IntKind.wrap_i64]; omega
        have hwr2 : wrap64 ((j' : Int) + (nd : Int)) = (s : Int) := by unfold wrap64; omega
        have hnI : (0 : Int) < (nd : Int) := by omega
        have hnb : decide ((0 : Int) < (nd : Int)) = true := decide_eq_true hnI
        have HWH := Lib.hid (fun (W W' : World) (hW : SN P W' b v l dp s W) => swhite_any hW)
        have HSB : Hid (s ≤ 1000000000) := Nat.le_trans (hs ▸ hlt) (Nat.le_trans hll big_le)
        have HXE : Hid (X = if ((whiteR (l.drop s)).isEmpty && top) = true then some (.mk (parts ++ [.mk t S]) combs wh) else none) := by
         show _ = _
         have h := chain_el (fn := fn) (top := top) (m := q) (combs := combs) hC h8 (by rw [hj4, hel]; exact hn)
         rw [hXj, hj4, hel, List.drop_drop] at h
         rw [h]
         simp only [hs]
        clear hel hXj hC hlt
        go_upto_region 9 with (go_at_call 39; (refine (HEL.out _ HIN.out.sn HIN.out.tab).mono ?_); rintro e w9 ⟨rfl, hb9⟩; have HI9 := Lib.hid (HIN.out.below hb9); clear hb9; have x2 : w9.cell? ⟨gc, 2, none⟩ = some (.int .i64 0) := HI9.out.c.cell 2; have xf2 : w9.frozen? ⟨gc, 2, none⟩ = false := HI9.out.c.frozen 2)
        go_upto_region 10 with fail
        have HI10 := Lib.hid (HI9.out.field (k := 2) (u := .int .i64 wh) rfl HI9.out.row1 HI9.out.row2 HI9.out.sep HTL.out)
        generalize w9.setCell _ _ = W10 at *
        clear x2 xf2
        have d1 := HI10.out.sn.wk.c1
        have e1 := HI10.out.sn.wk.f1
        go_upto_region 11 with fail
        have HI11 := Lib.hid (HI10.out.moved (HI10.out.sn.now.put s HSB.out) hbt)
        clear d1 e1
        generalize W10.setCell _ _ = W11 at *
        go_upto_region 12 with (go_at_call 37; (refine (HWH.out _ _ HI11.out.sn.now).mono ?_); rintro e w12 ⟨rfl, kk, hk1, hk2, hk3, hs12⟩; have HI12 := Lib.hid (HI11.out.moved hs12 hbt); clear hs12)
        rw [hk2] at HXE
        obtain ⟨E, hE⟩ : ∃ E, (l.drop kk).isEmpty = E := ⟨_, rfl⟩
        have HEE := Lib.hid hE
        rw [hE] at HXE
        clear hE hk1 hk2 hk3
        cases E
        · have HRS : Hid (R.isSome = false ∧ ∀ c, R = some c → c = .mk (parts ++ [.mk t S]) combs wh) := by
           have h : R = none := by rw [← HRX.out, HXE.out]; rfl
           subst h
           exact ⟨rfl, fun c h => by cases h⟩
          have HI13 := Lib.hid HI12.out.drew
          refine wp_region_held_drew (S := fun W => CB 35 W gc (cxC (.slice (some ⟨g, 0, none⟩) (m1 + 1) cap) (.slice oa2 m2 oc2) wh) ∧ W.cell? ⟨b, 2, none⟩ = some (.int .i64 dp)) (by kernel_rfl) ⟨HI13.out.c, HI13.out.sn.wk.c2⟩ (fun hHeld => ?_)
          have hbo := HI13.out.sn.old
          have ho1 := HI13.out.o1
          generalize w12.drew = W13 at *
          refine wTake 0 (v := ?_) rfl (Or.inl ⟨by rfl, ?_⟩) ?_
          rotate_left
          · intro W hSw
            have x0 : W.cell? ⟨gc, 0, none⟩ = some (.slice (some ⟨g, 0, none⟩) (m1 + 1) cap) := hSw.1.cell 0
            have x1 : W.cell? ⟨gc, 1, none⟩ = some (.slice oa2 m2 oc2) := hSw.1.cell 1
            have x2 : W.cell? ⟨gc, 2, none⟩ = some (.int .i64 wh) := hSw.1.cell 2
            go_simp
            all_goals with_reducible rfl
          try simp only [gA, gB, gC, gD, gE, gF, gG]
          refine wTake 1 (v := ?_) rfl (Or.inl ⟨by rfl, ?_⟩) ?_
          rotate_left
          · intro W hSw
            go_simp
            all_goals with_reducible rfl
          try simp only [gA, gB, gC, gD, gE, gF, gG]
          refine wpAnyH_ready (rs := [2]) (by kernel_rfl) (by simp) ?_
          refine AllReadyH.cons (o := _) rfl (fun K hK => ?_) AllReadyH.nil
          simp only [List.getElem_toArray, List.getElem_cons_zero, List.getElem_cons_succ]
          rw [if_pos (by rfl)]
          go_simp
          refine (sended_any HI13.out.sn).mono ?_
          rintro e w14 ⟨rfl, hb14⟩
          rw [HEE.out]
          have HI14 := Lib.hid (HI13.out.below hb14)
          clear hb14 hHeld
          go_simp
          refine hK.out _ _ ⟨HI14.out.c, HI14.out.sn.wk.c2⟩ (fun hHeld => ?_)
          clear hK K
          try simp only [gA, gB, gC, gD, gE, gF, gG]
          refine wTake 3 (v := ?_) rfl (Or.inl ⟨by rfl, ?_⟩) ?_
          rotate_left
          · intro W hSw
            go_simp
            all_goals with_reducible rfl
          try simp only [gA, gB, gC, gD, gE, gF, gG]
          refine wpAnyH_take (i := 4) (oi := _) (v := undef) rfl (by kernel_rfl) (by kernel_rfl) (by kernel_rfl) (fun _ _ _ h => h) (Or.inr ⟨by rfl, rfl⟩) (by assumption) ?_
          try simp only [gA, gB, gC, gD, gE, gF, gG]
          refine wpAnyH_take (i := 5) (oi := _) (v := undef) rfl (by kernel_rfl) (by kernel_rfl) (by kernel_rfl) (fun _ _ _ h => h) (Or.inr ⟨by rfl, rfl⟩) (by assumption) ?_
          try simp only [gA, gB, gC, gD, gE, gF, gG]
          refine wpAnyH_take (i := 6) (oi := _) (v := undef) rfl (by kernel_rfl) (by kernel_rfl) (by kernel_rfl) (fun _ _ _ h => h) (Or.inr ⟨by rfl, rfl⟩) (by assumption) ?_
          try simp only [gA, gB, gC, gD, gE, gF, gG]
          refine wpAnyH_take (i := 7) (oi := _) (v := undef) rfl (by kernel_rfl) (by kernel_rfl) (by kernel_rfl) (fun _ _ _ h => h) (Or.inr ⟨by rfl, rfl⟩) (by assumption) ?_
          try simp only [gA, gB, gC, gD, gE, gF, gG]
          refine wpAnyH_take (i := 8) (oi := _) (v := undef) rfl (by kernel_rfl) (by kernel_rfl) (by kernel_rfl) (fun _ _ _ h => h) (Or.inr ⟨by rfl, rfl⟩) (by assumption) ?_
          try simp only [gA, gB, gC, gD, gE, gF, gG]
          refine wTake 9 (v := ?_) rfl (Or.inl ⟨by rfl, ?_⟩) ?_
          rotate_left
          · intro W hSw
            go_simp
            all_goals with_reducible rfl
          try simp only [gA, gB, gC, gD, gE, gF, gG]
          refine wpAnyH_ready (rs := [10]) (by kernel_rfl) (by simp) ?_
          refine AllReadyH.cons (o := _) rfl (fun K hK => ?_) AllReadyH.nil
          simp only [List.getElem_toArray, List.getElem_cons_zero, List.getElem_cons_succ]
          rw [if_pos (by rfl)]
          refine wp_store_mid 35 (.tmp 2) (.tmp 51) rfl w.heap.size 0 (cxC (.slice (some ⟨g, 0, none⟩) (m1 + 1) cap) (.slice oa2 m2 oc2) wh) rfl rfl (cbW_there HI14.out.z (n := 3) rfl) cx_size (cx_one _ _ _ _ _ _ _) ?_
          have HRT := Lib.hid (HI14.out.ret (.slice (some ⟨g, 0, none⟩) (m1 + 1) cap) (.slice oa2 m2 oc2) wh)
          have hS2 : CB 35 (w14.setCells w.heap.size 0 ((cxC (.slice (some ⟨g, 0, none⟩) (m1 + 1) cap) (.slice oa2 m2 oc2) wh)).toList) gc (cxC (.slice (some ⟨g, 0, none⟩) (m1 + 1) cap) (.slice oa2 m2 oc2) wh) ∧ (w14.setCells w.heap.size 0 ((cxC (.slice (some ⟨g, 0, none⟩) (m1 + 1) cap) (.slice oa2 m2 oc2) wh)).toList).cell? ⟨b, 2, none⟩ = some (.int .i64 dp) := ⟨CB.farW (by omega) _ _ _ hHeld.1, (World.cell?_of_block (a := ⟨b, 2, none⟩) (setsW_other (by show b ≠ w.heap.size; omega) _ 0 w14)).trans hHeld.2⟩
          change Hid (CB 35 (w14.setCells w.heap.size 0 ((cxC (.slice (some ⟨g, 0, none⟩) (m1 + 1) cap) (.slice oa2 m2 oc2) wh)).toList) _ _ ∧ Gw b w (w14.setCells w.heap.size 0 ((cxC (.slice (some ⟨g, 0, none⟩) (m1 + 1) cap) (.slice oa2 m2 oc2) wh)).toList) ∧ rdG (w14.setCells w.heap.size 0 ((cxC (.slice (some ⟨g, 0, none⟩) (m1 + 1) cap) (.slice oa2 m2 oc2) wh)).toList) _ _ _ ∧ rdG (w14.setCells w.heap.size 0 ((cxC (.slice (some ⟨g, 0, none⟩) (m1 + 1) cap) (.slice oa2 m2 oc2) wh)).toList) _ _ _) at HRT
          clear hHeld
          generalize w14.setCells w.heap.size 0 ((cxC (.slice (some ⟨g, 0, none⟩) (m1 + 1) cap) (.slice oa2 m2 oc2) wh)).toList = W15 at *
          refine hK.out _ _ hS2 (fun hHeld => ?_)
          clear hK K
          try simp only [gA, gB, gC, gD, gE, gF, gG]
          refine wTake 11 (v := ?_) rfl (Or.inl ⟨by rfl, ?_⟩) ?_
          rotate_left
          · intro W hSw
            go_simp
            all_goals with_reducible rfl
          try simp only [gA, gB, gC, gD, gE, gF, gG]
          refine wpAnyH_done (by kernel_rfl) ?_ _
          go_wp2
          exact bodyPost_ret (v := .tuple #[.agg (cxC (.slice (some ⟨g, 0, none⟩) (m1 + 1) cap) (.slice oa2 m2 oc2) wh), .bool false]) (results_cellT (by rfl) _ _ w.heap.size _ _ _ _ _ (by rfl) (by rfl) HRT.out.1 Tryz.underlying35 (by rfl) cx_size) rfl ⟨parts ++ [.mk t S], combs, wh, _, _, by rw [HRS.out.1], by have h := HRT.out.2.2.1; rw [HM1'.out] at h; exact h, by have h := HRT.out.2.2.2; rw [HM2.out] at h; exact h, HRS.out.2, HRT.out.2.1⟩
        · have HRS : Hid (R.isSome = top ∧ ∀ c, R = some c → c = .mk (parts ++ [.mk t S]) combs wh) := chain_row (by rw [← HRX.out, HXE.out, Bool.true_and])
          have HI13 := Lib.hid HI12.out.drew
          refine wp_region_held_drew (S := fun W => CB 35 W gc (cxC (.slice (some ⟨g, 0, none⟩) (m1 + 1) cap) (.slice oa2 m2 oc2) wh) ∧ W.cell? ⟨b, 2, none⟩ = some (.int .i64 dp)) (by kernel_rfl) ⟨HI13.out.c, HI13.out.sn.wk.c2⟩ (fun hHeld => ?_)
          have hbo := HI13.out.sn.old
          have ho1 := HI13.out.o1
          generalize w12.drew = W13 at *
          refine wTake 0 (v := ?_) rfl (Or.inl ⟨by rfl, ?_⟩) ?_
          rotate_left
          · intro W hSw
            have x0 : W.cell? ⟨gc, 0, none⟩ = some (.slice (some ⟨g, 0, none⟩) (m1 + 1) cap) := hSw.1.cell 0
            have x1 : W.cell? ⟨gc, 1, none⟩ = some (.slice oa2 m2 oc2) := hSw.1.cell 1
            have x2 : W.cell? ⟨gc, 2, none⟩ = some (.int .i64 wh) := hSw.1.cell 2
            go_simp
            all_goals with_reducible rfl
          try simp only [gA, gB, gC, gD, gE, gF, gG]
          refine wTake 1 (v := ?_) rfl (Or.inl ⟨by rfl, ?_⟩) ?_
          rotate_left
          · intro W hSw
            go_simp
            all_goals with_reducible rfl
          try simp only [gA, gB, gC, gD, gE, gF, gG]
          refine wpAnyH_ready (rs := [2]) (by kernel_rfl) (by simp) ?_
          refine AllReadyH.cons (o := _) rfl (fun K hK => ?_) AllReadyH.nil
          simp only [List.getElem_toArray, List.getElem_cons_zero, List.getElem_cons_succ]
          rw [if_pos (by rfl)]
          go_simp
          refine (sended_any HI13.out.sn).mono ?_
          rintro e w14 ⟨rfl, hb14⟩
          rw [HEE.out]
          have HI14 := Lib.hid (HI13.out.below hb14)
          clear hb14 hHeld
          go_simp
          refine hK.out _ _ ⟨HI14.out.c, HI14.out.sn.wk.c2⟩ (fun hHeld => ?_)
          clear hK K
          try simp only [gA, gB, gC, gD, gE, gF, gG]
          refine wTake 3 (v := ?_) rfl (Or.inl ⟨by rfl, ?_⟩) ?_
          rotate_left
          · intro W hSw
            go_simp
            all_goals with_reducible rfl
          try simp only [gA, gB, gC, gD, gE, gF, gG]
          refine wTake 4 (v := ?_) rfl (Or.inl ⟨by rfl, ?_⟩) ?_
          rotate_left
          · intro W hSw
            go_simp
            all_goals with_reducible rfl
          try simp only [gA, gB, gC, gD, gE, gF, gG]
          refine wTake 5 (v := ?_) rfl (Or.inl ⟨by rfl, ?_⟩) ?_
          rotate_left
          · intro W hSw
            go_simp
            all_goals with_reducible rfl
          try simp only [gA, gB, gC, gD, gE, gF, gG]
          refine wTake 6 (v := ?_) rfl (Or.inl ⟨by rfl, ?_⟩) ?_
          rotate_left
          · intro W hSw
            go_simp
            all_goals with_reducible rfl
          try simp only [gA, gB, gC, gD, gE, gF, gG]
          refine wTake 7 (v := ?_) rfl (Or.inl ⟨by rfl, ?_⟩) ?_
          rotate_left
          · intro W hSw
            have hS2 := hSw.2
            go_simp
            all_goals with_reducible rfl
          try simp only [gA, gB, gC, gD, gE, gF, gG]
          refine wTake 8 (v := ?_) rfl (Or.inl ⟨by rfl, ?_⟩) ?_
          rotate_left
          · intro W hSw
            go_simp
            all_goals with_reducible rfl
          try simp only [gA, gB, gC, gD, gE, gF, gG]
          refine wTake 9 (v := ?_) rfl (Or.inl ⟨by rfl, ?_⟩) ?_
          rotate_left
          · intro W hSw
            go_simp
            all_goals with_reducible rfl
          try simp only [gA, gB, gC, gD, gE, gF, gG]
          refine wpAnyH_ready (rs := [10]) (by kernel_rfl) (by simp) ?_
          refine AllReadyH.cons (o := _) rfl (fun K hK => ?_) AllReadyH.nil
          simp only [List.getElem_toArray, List.getElem_cons_zero, List.getElem_cons_succ]
          rw [if_pos (by rfl)]
          refine wp_store_mid 35 (.tmp 2) (.tmp 51) rfl w.heap.size 0 (cxC (.slice (some ⟨g, 0, none⟩) (m1 + 1) cap) (.slice oa2 m2 oc2) wh) rfl rfl (cbW_there HI14.out.z (n := 3) rfl) cx_size (cx_one _ _ _ _ _ _ _) ?_
          have HRT := Lib.hid (HI14.out.ret (.slice (some ⟨g, 0, none⟩) (m1 + 1) cap) (.slice oa2 m2 oc2) wh)
          have hS2 : CB 35 (w14.setCells w.heap.size 0 ((cxC (.slice (some ⟨g, 0, none⟩) (m1 + 1) cap) (.slice oa2 m2 oc2) wh)).toList) gc (cxC (.slice (some ⟨g, 0, none⟩) (m1 + 1) cap) (.slice oa2 m2 oc2) wh) ∧ (w14.setCells w.heap.size 0 ((cxC (.slice (some ⟨g, 0, none⟩) (m1 + 1) cap) (.slice oa2 m2 oc2) wh)).toList).cell? ⟨b, 2, none⟩ = some (.int .i64 dp) := ⟨CB.farW (by omega) _ _ _ hHeld.1, (World.cell?_of_block (a := ⟨b, 2, none⟩) (setsW_other (by show b ≠ w.heap.size; omega) _ 0 w14)).trans hHeld.2⟩
          change Hid (CB 35 (w14.setCells w.heap.size 0 ((cxC (.slice (some ⟨g, 0, none⟩) (m1 + 1) cap) (.slice oa2 m2 oc2) wh)).toList) _ _ ∧ Gw b w (w14.setCells w.heap.size 0 ((cxC (.slice (some ⟨g, 0, none⟩) (m1 + 1) cap) (.slice oa2 m2 oc2) wh)).toList) ∧ rdG (w14.setCells w.heap.size 0 ((cxC (.slice (some ⟨g, 0, none⟩) (m1 + 1) cap) (.slice oa2 m2 oc2) wh)).toList) _ _ _ ∧ rdG (w14.setCells w.heap.size 0 ((cxC (.slice (some ⟨g, 0, none⟩) (m1 + 1) cap) (.slice oa2 m2 oc2) wh)).toList) _ _ _) at HRT
          clear hHeld
          generalize w14.setCells w.heap.size 0 ((cxC (.slice (some ⟨g, 0, none⟩) (m1 + 1) cap) (.slice oa2 m2 oc2) wh)).toList = W15 at *
          refine hK.out _ _ hS2 (fun hHeld => ?_)
          clear hK K
          try simp only [gA, gB, gC, gD, gE, gF, gG]
          refine wTake 11 (v := ?_) rfl (Or.inl ⟨by rfl, ?_⟩) ?_
          rotate_left
          · intro W hSw
            go_simp
            all_goals with_reducible rfl
          try simp only [gA, gB, gC, gD, gE, gF, gG]
          refine wpAnyH_done (by kernel_rfl) ?_ _
          go_wp2
          exact bodyPost_ret (v := .tuple #[.agg (cxC (.slice (some ⟨g, 0, none⟩) (m1 + 1) cap) (.slice oa2 m2 oc2) wh), .bool top]) (results_cellT (by rfl) _ _ w.heap.size _ _ _ _ _ (by rfl) (by rfl) HRT.out.1 Tryz.underlying35 (by rfl) cx_size) rfl ⟨parts ++ [.mk t S], combs, wh, _, _, by rw [HRS.out.1], by have h := HRT.out.2.2.1; rw [HM1'.out] at h; exact h, by have h := HRT.out.2.2.2; rw [HM2.out] at h; exact h, HRS.out.2, HRT.out.2.1⟩
      · obtain rfl : nd = 0 := by omega
        have HCB := Lib.hid (fun (W W' : World) (hW : SN P W' b v l dp j' W) => scomb_any hW)
        unfold CombPost at HCB
        obtain ⟨cb, hcb⟩ : ∃ x, (combR (l.drop j')).1 = x := ⟨_, rfl⟩
        obtain ⟨rr, hrr⟩ : ∃ x, (combR (l.drop j')).2 = x := ⟨_, rfl⟩
        rw [hcb, hrr] at HCB
        cases hce : (cb.toList == [])
        · have HXE : Hid (chainF fn top q (parts ++ [.mk t S]) (combs ++ [cb]) rr = X) := by
           show _ = _
           rw [← hXj, chain_more hC h8 (by rw [hj4, hel]; exact hn) (by rw [hj4, hcb]; exact hce), hj4, hcb, hrr]
          clear hel hXj hC hlt hcb hrr
          have hcx : ¬ cb.toList = [] := by simpa using hce
          go_upto_region 16 with (first | (go_at_call 39; (refine (HEL.out _ HIN.out.sn HIN.out.tab).mono ?_); rintro e w9 ⟨rfl, hb9⟩; have HI9 := Lib.hid (HIN.out.below hb9); clear hb9) | (go_at_call 41; (refine (HCB.out _ _ HI9.out.sn.now).mono ?_); rintro e w10 ⟨rfl, kk, hk1, hk2, hk3, hs10⟩; have HI10 := Lib.hid (HI9.out.moved hs10 hbt); clear hs10))
          have x1 : w10.cell? ⟨gc, 1, none⟩ = some (.slice oa2 m2 oc2) := HI10.out.c.cell 1
          have HI11 := Lib.hid (HI10.out.below ((Below.refl w10.heap.size w10).alloc (Nat.le_refl _) (.cells #[.string cb] 9)))
          have HNEW := Lib.hid (txt_news w10 cb 9)
          have HRW := Lib.hid HI11.out.row2.row
          rw [HK2.out] at HRW
          go_wp2_with (at_builtin; refine wpList_append_lies _ rfl _ _ 24 rfl (gc + 1) 9 t0 (.string ⟨#[]⟩) 1 16 Tryz.underlying24 ht0 tz0 tz1 tz2 rfl (by decide) (.slice oa2 m2 oc2) m2 (ks2.flatMap Prod.fst) rfl HRW.out ⟨_, 0, none⟩ 1 1 [.string cb] rfl rfl HNEW.out (txt_oneL _) (by decide) (by unfold maxLen; omega) (by omega) HI11.out.o3 _ rfl ?_; intro g2 cap2 w7 hown7 hgrow7 hat7 hlt7; have HRS := Lib.hid (HI11.out.rest HTL.out hgrow7 (fun q hq => (World.ownsRow.lt HRW.out q hq).1)); have xz : w7.cell? ⟨gc, 1, none⟩ = some (.slice oa2 m2 oc2) := HRS.out.2.2.1.cell 1; have xzf : w7.frozen? ⟨gc, 1, none⟩ = false := HRS.out.2.2.1.frozen 1)
          have hpush := HI11.out.row2.push HK2.out hown7 hgrow7 hat7 (txt_cells _ _ cb)
          have hIN := HI11.out.push2 HTL.out hgrow7 hat7 hpush
          refine ⟨⟨parts ++ [.mk t S], combs ++ [cb], _, _, _, _, kk, hIN, HM1'.out, ?_, ?_, ?_, ?_, ?_⟩, ?_⟩
          · rw [List.map_append, HM2.out]
            unfold cbDt
            rw [List.map_append]
            rfl
          · rw [List.length_append]
            simp
            omega
          · rw [List.length_append, List.length_append]
            simp
            omega
          · by_cases c : j' < kk
            · have := (hk3 c).2
              omega
            · omega
          · rw [← HXE.out, List.length_append, hk2]
            congr 1
            rw [List.length_singleton]
            omega
          · rw [hIN.len, HI.out.len, HK1'.out, HK1.out]
            have := HL1.out
            omega
        · have HXE : Hid (X = if rr.isEmpty = true then some (.mk (parts ++ [.mk t S]) combs 0) else none) := by
           show _ = _
           rw [← hXj, chain_end hC h8 (by rw [hj4, hel]; exact hn) (by rw [hj4, hcb]; exact hce), hj4, hrr]
          clear hel hXj hC hlt hcb hrr
          have hcx : cb.toList = [] := by simpa using hce
          go_upto_region 15 with (first | (go_at_call 39; (refine (HEL.out _ HIN.out.sn HIN.out.tab).mono ?_); rintro e w9 ⟨rfl, hb9⟩; have HI9 := Lib.hid (HIN.out.below hb9); clear hb9) | (go_at_call 41; (refine (HCB.out _ _ HI9.out.sn.now).mono ?_); rintro e w10 ⟨rfl, kk, hk1, hk2, hk3, hs10⟩; have HI10 := Lib.hid (HI9.out.moved hs10 hbt); clear hs10))
          have HI10d := HI10.out.drew
          have x0 : w10.cell? ⟨gc, 0, none⟩ = some (.slice (some ⟨g, 0, none⟩) (m1 + 1) cap) := HI10.out.c.cell 0
          have x1 : w10.cell? ⟨gc, 1, none⟩ = some (.slice oa2 m2 oc2) := HI10.out.c.cell 1
          have x2 : w10.cell? ⟨gc, 2, none⟩ = some (.int .i64 0) := HI10.out.c.cell 2
          obtain ⟨E, hE⟩ : ∃ E, (l.drop kk).isEmpty = E := ⟨_, rfl⟩
          rw [hk2, hE] at HXE
          have HEE := Lib.hid hE
          clear hE hk1 hk2 hk3
          have HRS : Hid (R.isSome = E ∧ ∀ c, R = some c → c = .mk (parts ++ [.mk t S]) combs 0) := chain_row (by rw [← HRX.out, HXE.out])
          clear HXE
          go_region_with (go_at_call 40; (refine (sended_any HI10.out.drew.sn).mono ?_); rintro e w13 ⟨rfl, hb13⟩; rw [HEE.out]; have HI13 := Lib.hid (HI10.out.drew.below hb13); clear hb13; have x0 : w13.cell? ⟨gc, 0, none⟩ = some (.slice (some ⟨g, 0, none⟩) (m1 + 1) cap) := HI13.out.c.cell 0; have x1 : w13.cell? ⟨gc, 1, none⟩ = some (.slice oa2 m2 oc2) := HI13.out.c.cell 1; have x2 : w13.cell? ⟨gc, 2, none⟩ = some (.int .i64 0) := HI13.out.c.cell 2; have z0 : w13.cell? ⟨w.heap.size, 0, none⟩ = some (.slice none 0 0) := HI13.out.z.cell 0; have zf0 : w13.frozen? ⟨w.heap.size, 0, none⟩ = false := HI13.out.z.frozen 0; have z1 : w13.cell? ⟨w.heap.size, 1, none⟩ = some (.slice none 0 0) := HI13.out.z.cell 1; have zf1 : w13.frozen? ⟨w.heap.size, 1, none⟩ = false := HI13.out.z.frozen 1; have z2 : w13.cell? ⟨w.heap.size, 2, none⟩ = some (.int .i64 0) := HI13.out.z.cell 2; have zf2 : w13.frozen? ⟨w.heap.size, 2, none⟩ = false := HI13.out.z.frozen 2)
          all_goals go_wp2
          all_goals exact bodyPost_ret (v := .tuple #[.agg (cxC (.slice (some ⟨g, 0, none⟩) (m1 + 1) cap) (.slice oa2 m2 oc2) 0), .bool E]) (results_cellT (by rfl) _ _ w.heap.size _ _ _ _ _ (by rfl) (by rfl) (HI13.out.ret (.slice (some ⟨g, 0, none⟩) (m1 + 1) cap) (.slice oa2 m2 oc2) 0).1 Tryz.underlying35 (by rfl) cx_size) rfl ⟨parts ++ [.mk t S], combs, 0, _, _, by rw [HRS.out.1], by have h := (HI13.out.ret (.slice (some ⟨g, 0, none⟩) (m1 + 1) cap) (.slice oa2 m2 oc2) 0).2.2.1; rw [HM1'.out] at h; exact h, by have h := (HI13.out.ret (.slice (some ⟨g, 0, none⟩) (m1 + 1) cap) (.slice oa2 m2 oc2) 0).2.2.2; rw [HM2.out] at h; exact h, HRS.out.2, (HI13.out.ret _ _ _).2.1⟩
end Go.Proofs.YtclicjiakkcfcaaGreatDoor
