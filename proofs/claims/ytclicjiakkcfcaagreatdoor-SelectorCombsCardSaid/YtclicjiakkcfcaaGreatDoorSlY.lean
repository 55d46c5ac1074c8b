import Derived.Test.YtclicjiakkcfcaaGreatDoorSlX
set_option maxRecDepth 100000
set_option maxHeartbeats 6400000
namespace Go.Proofs.YtclicjiakkcfcaaGreatDoor
open Go.RowKit
theorem splA_in : ∀ (l now : List Nd), ∀ p ∈ splA now l, ∀ n ∈ p, n ∈ now ∨ n ∈ l
  | [], now, p, hp, n, hn => by
   rw [splA, List.mem_singleton] at hp
   subst hp
   exact .inl hn
  | m :: l, now, p, hp, n, hn => by
   rw [splA] at hp
   split at hp
   · rcases List.mem_cons.1 hp with rfl | hp
     · exact .inl hn
     · rcases splA_in l [] p hp n hn with h | h
       · cases h
       · exact .inr (List.mem_cons_of_mem _ h)
   · rcases splA_in l _ p hp n hn with h | h
     · rcases List.mem_append.1 h with h | h
       · exact .inl h
       · rw [List.mem_singleton] at h
         subst h
         exact .inr (by simp)
     · exact .inr (List.mem_cons_of_mem _ h)
theorem splA_sz : ∀ (l now : List Nd), ∀ p ∈ splA now l, szL p ≤ szL now + szL l
  | [], now, p, hp => by
   rw [splA, List.mem_singleton] at hp
   subst hp
   omega
  | m :: l, now, p, hp => by
   rw [splA] at hp
   rw [szL]
   split at hp
   · rcases List.mem_cons.1 hp with rfl | hp
     · omega
     · have := splA_sz l [] p hp
       rw [szL] at this
       omega
   · have := splA_sz l _ p hp
     rw [szL_append, szL, szL] at this
     omega
theorem wrap_succ1 {i : Nat} (h : i ≤ 100000001) : wrap64 ((i : Int) + 1) = ((i + 1 : Nat) : Int) := by unfold wrap64; omega
theorem wrap_succ2 {i : Nat} (h : i ≤ 100000001) : IntKind.i64.wrap ((i : Int) + 1) = ((i + 1 : Nat) : Int) := by rw [IntKind.wrap_i64]; omega
theorem meas_succ {i n : Nat} (h : i < n) : n - (intOf (.int .i64 ((i + 1 : Nat) : Int))).toNat < n - (intOf (.int .i64 (i : Int))).toNat := by simp [intOf]; omega
theorem app_bounds {m : Nat} (h : m ≤ 100000001) : m + 1 ≤ maxLen ∧ (m + 1) * 56 ≤ 140737488355328 := by unfold maxLen; omega
theorem spl_tx {l : List Nd} (h : txD l) {p : List Nd} (hp : p ∈ splS l) : txD p := txD.of fun n hn => by
 rcases splA_in l [] p hp n hn with h' | h'
 · cases h'
 · exact h.mem n h'
theorem spl_sz {l : List Nd} (h : szL l ≤ 100000000) {p : List Nd} (hp : p ∈ splS l) : szL p ≤ 100000000 := by
 have := splA_sz l [] p hp
 rw [szL] at this
 omega
def gotS (f : List Nd → Option CxD) (parts : List (List Nd)) (i : Nat) : List CxD := (parts.take i).filterMap f
theorem got_no {f : List Nd → Option CxD} {parts : List (List Nd)} {i : Nat} (hi : i < parts.length) (h : f parts[i] = none) : gotS f parts (i + 1) = gotS f parts i := by
 unfold gotS
 rw [List.take_succ_eq_append_getElem hi, List.filterMap_append]
 simp [h]
theorem got_yes {f : List Nd → Option CxD} {parts : List (List Nd)} {i : Nat} (hi : i < parts.length) {c : CxD} (h : f parts[i] = some c) : gotS f parts (i + 1) = gotS f parts i ++ [c] := by
 unfold gotS
 rw [List.take_succ_eq_append_getElem hi, List.filterMap_append]
 simp [h]
theorem list_bad {fn : FnS} {top : Bool} {l : List Nd} {i : Nat} (hi : i < (splS l).length) (h : chainW fn top (splS l)[i] = none) : listW fn top false l = none := by
 unfold listW
 rw [if_pos]
 rw [Bool.not_false, Bool.true_and, List.any_eq_true]
 exact ⟨_, List.getElem_mem hi, by rw [h]; rfl⟩
theorem list_end {fn : FnS} {top forg : Bool} {l : List Nd} (h : forg = false → ∀ j (hj : j < (splS l).length), (chainW fn top (splS l)[j]).isSome = true) : listW fn top forg l = if 16 < (gotS (chainW fn top) (splS l) (splS l).length).length then none else some (gotS (chainW fn top) (splS l) (splS l).length) := by
 unfold listW gotS
 rw [List.take_length, if_neg]
 intro hc
 rw [Bool.and_eq_true, List.any_eq_true] at hc
 obtain ⟨h1, p, hp, h2⟩ := hc
 obtain ⟨j, hj, rfl⟩ := List.getElem_of_mem hp
 have := h (by simpa using h1) j hj
 rw [Option.isNone_iff_eq_none] at h2
 rw [h2] at this
 cases this
theorem info_cx : (Tryz.prog.info? 35).map (fun i => (i.zero, i.size, i.bytes)) = some (some (.agg cxZ), 3, 56) := by kernel_rfl
theorem cx_news (w : World) (u1 u2 : Value) (s : Int) (T : TypeId) : ∀ j y, ((cxC u1 u2 s).toList)[j]? = some y → (w.alloc (.cells (cxC u1 u2 s) T)).cell? ((⟨w.heap.size, 0, none⟩ : Addr).add j) = some y :=
 World.news_of_block (cs := cxC u1 u2 s) (heap_alloc_self _ _)
theorem cx_oneL (p : Option Addr) (m c : Nat) (p2 : Option Addr) (m2 c2 : Nat) (s : Int) : ∀ u ∈ (cxC (.slice p m c) (.slice p2 m2 c2) s).toList, u.oneCell' = true := by
 intro u hu
 simp only [List.mem_cons, List.not_mem_nil, or_false] at hu
 rcases hu with rfl | rfl | rfl <;> rfl
theorem cx_cells {W : World} {Q : Nat → Prop} {Pt : List CmD} {Cb : List ByteArray} {u1 u2 : Value} (h1 : rdG W Q (.sl 2 (cmsDt Pt)) u1) (h2 : rdG W Q (.sl 1 (cbDt Cb)) u2) (s : Int) : CellsOk W Q 3 ((cxC u1 u2 s).toList, (CxD.mk Pt Cb s).dt) := by
 refine ⟨rfl, CxD.dt_len _, ?_⟩
 intro i hi1 hi2
 rw [CxD.dt_len] at hi2
 simp only [CxD.dt]
 match i, hi2 with
 | 0, _ => exact h1
 | 1, _ => exact h2
 | 2, _ => exact (by rw [rdG] : rdG W Q (.lf (.int .i64 s)) (.int .i64 s))
structure LsI (l : List Nd) (f : List Nd → Option CxD) (forg : Bool) (ws : World) (i : Nat) (av : Value) (ka : List (List Value × List Dt)) (wr : World) : Prop where
  row : LsG (fun g => ws.heap.size ≤ g) ws.heap.size 35 3 wr av ka
  got : ka.map Prod.snd = cxsDt (gotS f (splS l) i)
  le : i ≤ (splS l).length
  all : forg = false → ∀ j (hj : j < (splS l).length), j < i → (f (splS l)[j]).isSome = true
  bel : Below ws.heap.size ws wr
theorem slist_any {fn : FnS} {d : Int} (hd0 : 0 ≤ d) (hd1 : d ≤ 10) (hF : FnOk fn (d + 1)) : ListOk fn d := by
 intro P w v l forg h hl hx ht
 have hll := szL_ge l
 obtain ⟨i0, hi0, hz0, hz1, hz2⟩ := info_parts info_cx
 have HSP := Lib.hid (split_any h hl)
 obtain ⟨top, htop⟩ : ∃ t, (d == 0) = t := ⟨_, rfl⟩
 rw [htop]
 obtain ⟨R, hR⟩ : ∃ R, listW fn top forg l = R := ⟨_, rfl⟩
 rw [hR]
 have HR := Lib.hid hR
 have HTB := Lib.hid ht
 have HTL := Lib.hid ht.lt
 have HPN : Hid ((splS l).length ≤ 100000001) := by
  show _ ≤ _
  rw [splS_len]
  have := List.length_filter_le isCm l
  unfold cmN
  omega
 obtain ⟨va, vc, rfl, _⟩ := h.shape
 unfold SplitPost at HSP
 clear h hR ht hll
 obtain ⟨f, hf⟩ : ∃ f, chainW fn top = f := ⟨_, rfl⟩
 have HXL := Lib.hid (fun (i : Nat) (hi : i < (splS l).length) => (show txD (splS l)[i] ∧ szL (splS l)[i] ≤ 100000000 from ⟨spl_tx hx (List.getElem_mem hi), spl_sz hl (List.getElem_mem hi)⟩))
 have HBAD : Hid (∀ i (hi : i < (splS l).length), f (splS l)[i] = none → forg = false → R = none) := fun i hi hn hf2 => by
  rw [← HR.out, hf2]
  exact list_bad hi (by rw [hf]; exact hn)
 have HEND : Hid ((forg = false → ∀ j (hj : j < (splS l).length), (f (splS l)[j]).isSome = true) → R = if 16 < (gotS f (splS l) (splS l).length).length then none else some (gotS f (splS l) (splS l).length)) := fun hh => by
  rw [← HR.out, ← hf]
  exact list_end (by rw [hf]; exact hh)
 have HCH := Lib.hid (fun (W : World) (b : Nat) (Q : Nat → Prop) (u : Value) (p : List Nd) (hs : SN Q W b u p d 0 W) (hxp : txD p) (hT : TabL W) (hbt : TabFar b) => show Calls Tryz.prog 26 #[.pointer (some ⟨b, 0, none⟩)] W (ChainPost b W (f p)) from by rw [← hf]; exact schain_any (fn := fn) hs (Nat.zero_le _) hxp hT hbt hd0 hd1 hF htop)
 clear hf hx hl htop HR
 generalize l.length = NN at *
 go_enter Tryz.func14, Tryz.ntmps14
 go_wp2_with (go_at_call 25; (refine HSP.out.mono ?_); rintro e w2 ⟨⟨sv, ks, rfl, hls, hks⟩, hb2⟩; obtain ⟨sa, sc, rfl, hsc⟩ := hls.sl; have HLS := Lib.hid hls; have HKS := Lib.hid hks; have HB2 := Lib.hid hb2; clear hls hks hb2)
 clear HSP
 have hn0 : ks.length = (splS l).length := by rw [← HKS.out, List.length_map]
 obtain ⟨n, hkn⟩ : ∃ n, ks.length = n := ⟨_, rfl⟩
 have hnp : 0 < n := by rw [← hkn, hn0, splS_len]; omega
 have hnle : n ≤ 100000001 := by rw [← hkn, hn0]; exact HPN.out
 rw [hkn] at hsc hn0 ⊢
 have HKN := Lib.hid hkn
 have HN0 := Lib.hid hn0
 obtain ⟨g, rfl⟩ : ∃ g, sa = some ⟨g, 0, none⟩ := by
  have h := HLS.out.row.2
  rw [HKN.out] at h
  rcases h with ⟨_, h0⟩ | ⟨g, cap, cur, hv, _⟩
  · omega
  · injection hv with hv _ _
    exact ⟨g, hv⟩
 clear hkn hn0
 go_loopw [8, 17] (fun av iv wr => ∃ (i : Nat) (ka : List (List Value × List Dt)) (a0 : Value), a0 = av ∧ iv = .int .i64 i ∧ LsI l f forg w2 i a0 ka wr) (fun _ iv _ => n - (intOf iv).toNat)
 case atStart => exact ⟨0, [], _, rfl, rfl, LsG.nil _ _ _ _ _, by unfold gotS; rw [List.take_zero, List.filterMap_nil, cxsDt]; rfl, Nat.zero_le _, fun _ _ _ h => absurd h (Nat.not_lt_zero _), Below.refl _ _⟩
 case round =>
  obtain ⟨i, ka, a0, rfl, rfl, hI⟩ := hrel
  obtain ⟨aa, ac, rfl, hac⟩ := row_sl hI.row.row
  obtain ⟨m, hm⟩ : ∃ m, ka.length = m := ⟨_, rfl⟩
  have hmi : m ≤ i := by
   have h := congrArg List.length hI.got
   rw [List.length_map, cxsDt_len, hm] at h
   have h2 := List.length_filterMap_le f ((splS l).take i)
   rw [List.length_take] at h2
   unfold gotS at h
   omega
  rw [hm] at hI hac ⊢
  have HM := Lib.hid hm
  have HAB := Lib.hid (app_bounds (Nat.le_trans hmi (Nat.le_trans (show i ≤ n by rw [HN0.out]; exact hI.le) hnle)))
  have HI := Lib.hid hI
  have hin : i ≤ n := by rw [HN0.out]; exact hI.le
  obtain ⟨wo, rfl⟩ : ∃ wo : World, wo = wr := ⟨_, rfl⟩
  have HTW := Lib.hid (HTB.out.below (belowU HB2.out HI.out.bel))
  have HWS := Lib.hid (belowU HB2.out HI.out.bel).size
  clear hI hm
  by_cases hlt : i < n
  · have hik : i < ks.length := by rw [HKN.out]; exact hlt
    have his : i < (splS l).length := by rw [← HN0.out]; exact hlt
    have HPI : Hid ((ks[i]).2 = (splS l)[i]) := by
     show _ = _
     have h : (ks.map Prod.snd)[i]? = (splS l)[i]? := by rw [HKS.out]
     rw [List.getElem?_map, List.getElem?_eq_getElem hik, List.getElem?_eq_getElem his] at h
     exact Option.some.inj h
    have hrd := (HLS.out.rd ks[i] (List.getElem_mem hik)).under HI.out.bel (Nat.le_refl _)
    have hcell : wo.cell? ⟨g, i, none⟩ = some (ks[i]).1 := by
     have h1 := HLS.out.row.cells (g := g) rfl i (ks[i]).1 (by rw [List.getElem?_map, List.getElem?_eq_getElem hik]; rfl)
     rw [add0] at h1
     exact (World.cell?_of_block (a := ⟨g, i, none⟩) (HI.out.bel.block g (World.ownsRow.lt HLS.out.row g rfl).2)).trans h1
    rw [HPI.out] at hrd
    have HXI := Lib.hid (HXL.out i his)
    generalize (ks[i]).1 = pv at *
    obtain ⟨p, hp⟩ : ∃ p, (splS l)[i] = p := ⟨_, rfl⟩
    have HP := Lib.hid hp
    rw [hp] at hrd HXI
    clear hp HPI
    obtain ⟨pa, pc, rfl, _⟩ := hrd.shape
    obtain ⟨QQ, HS1⟩ : ∃ Q : Nat → Prop, Hid (SN Q (wo.alloc (.cells #[.slice pa p.length pc, .int .i64 0, .int .i64 d] 90)) wo.heap.size (.slice pa p.length pc) p d 0 (wo.alloc (.cells #[.slice pa p.length pc, .int .i64 0, .int .i64 d] 90))) := ⟨_, SN.start hrd HXI.out.2 d⟩
    have HB1 := Lib.hid ((Below.refl wo.heap.size wo).alloc (Nat.le_refl _) (.cells #[.slice pa p.length pc, .int .i64 0, .int .i64 d] 90))
    have HT1 := Lib.hid (HTW.out.below HB1.out)
    clear hrd
    generalize p.length = pl at *
    have hx0 : (0 : Int) ≤ (i : Int) := by omega
    have hx1 : (i : Int) < (n : Int) := by omega
    have hx1b : decide ((i : Int) < (n : Int)) = true := decide_eq_true hx1
    go_upto_region 6 with fail
    generalize wo.alloc (.cells _ 90) = W1 at *
    have HCM := Lib.hid (HCH.out W1 wo.heap.size QQ _ p HS1.out HXI.out.1 HT1.out ⟨by have := HTL.out.1; have := HWS.out; omega, by have := HTL.out.2; have := HWS.out; omega⟩)
    unfold ChainPost at HCM
    obtain ⟨C, hC⟩ : ∃ C, f p = C := ⟨_, rfl⟩
    rw [hC] at HCM
    cases C with
    | none =>
     have HCN : Hid (f (splS l)[i] = none) := by show _ = _; rw [HP.out]; exact hC
     clear hC
     cases hfo : forg
     · have HRE : Hid (R = none) := HBAD.out i his HCN.out hfo
       clear hfo
       go_upto_region 7 with (go_at_call 26; (refine HCM.out.mono ?_); rintro e w3 ⟨Pt, Cb, ps, u1, u2, rfl, hr1, hr2, hq, hG⟩; obtain ⟨ya1, yc1, rfl, _⟩ := hr1.shape; obtain ⟨ya2, yc2, rfl, _⟩ := hr2.shape; generalize (cbDt Cb).length = n2 at *; generalize (cmsDt Pt).length = n1 at *; have hbn := (Below.refl w3.heap.size w3).alloc (Nat.le_refl _) (.cells (cxC (.slice ya1 n1 yc1) (.slice ya2 n2 yc2) ps) 35); have HB4 := Lib.hid (belowU (hG.toBelow HB1.out (Nat.le_refl _) (Nat.le_refl _)) hbn); have HY4 := Lib.hid (CB.new (T := 35) w3 (cxC (.slice ya1 n1 yc1) (.slice ya2 n2 yc2) ps)); have HR1 := Lib.hid (hr1.under hbn (Nat.le_refl _)); have HR2 := Lib.hid (hr2.under hbn (Nat.le_refl _)); clear hr1 hr2 hG hbn)
       generalize w3.alloc (.cells _ 35) = W5 at *
       generalize w3.heap.size = gy at *
       have HBL := Lib.hid (belowU (belowU HB2.out HI.out.bel) HB4.out)
       go_wp2
       refine bodyPost_ret (v := .tuple #[.slice none 0 0, .bool false]) (by simp [results, Tryz.results14, go_sem]) rfl ?_
       exact ⟨⟨[], _, by rw [HRE.out]; rfl, by rw [cxsDt]; exact rdG.nil _ _ _ _ _, fun s h => by rw [HRE.out] at h; cases h⟩, HBL.out⟩
     · subst hfo
       go_upto_region 7 with (go_at_call 26; (refine HCM.out.mono ?_); rintro e w3 ⟨Pt, Cb, ps, u1, u2, rfl, hr1, hr2, hq, hG⟩; obtain ⟨ya1, yc1, rfl, _⟩ := hr1.shape; obtain ⟨ya2, yc2, rfl, _⟩ := hr2.shape; generalize (cbDt Cb).length = n2 at *; generalize (cmsDt Pt).length = n1 at *; have hbn := (Below.refl w3.heap.size w3).alloc (Nat.le_refl _) (.cells (cxC (.slice ya1 n1 yc1) (.slice ya2 n2 yc2) ps) 35); have HB4 := Lib.hid (belowU (hG.toBelow HB1.out (Nat.le_refl _) (Nat.le_refl _)) hbn); have HY4 := Lib.hid (CB.new (T := 35) w3 (cxC (.slice ya1 n1 yc1) (.slice ya2 n2 yc2) ps)); have HR1 := Lib.hid (hr1.under hbn (Nat.le_refl _)); have HR2 := Lib.hid (hr2.under hbn (Nat.le_refl _)); clear hr1 hr2 hG hbn)
       generalize w3.alloc (.cells _ 35) = W5 at *
       generalize w3.heap.size = gy at *
       have HBL := Lib.hid (belowU HI.out.bel HB4.out)
       have hw1 := wrap_succ1 (Nat.le_trans hin hnle)
       have hw2 := wrap_succ2 (Nat.le_trans hin hnle)
       go_wp2
       go_roundw
       case rel =>
        refine ⟨i + 1, ka, _, rfl, rfl, ⟨HI.out.row.below HB4.out, ?_, his, fun h => (by cases h), HBL.out⟩⟩
        rw [got_no his HCN.out]
        exact HI.out.got
       case measure => exact meas_succ hlt
    | some c =>
     have HCN : Hid (f (splS l)[i] = some c) := by show _ = _; rw [HP.out]; exact hC
     clear hC
     go_upto_region 7 with (go_at_call 26; (refine HCM.out.mono ?_); rintro e w3 ⟨Pt, Cb, ps, u1, u2, rfl, hr1, hr2, hq, hG⟩; obtain ⟨ya1, yc1, rfl, _⟩ := hr1.shape; obtain ⟨ya2, yc2, rfl, _⟩ := hr2.shape; generalize (cbDt Cb).length = n2 at *; generalize (cmsDt Pt).length = n1 at *; have hbn := (Below.refl w3.heap.size w3).alloc (Nat.le_refl _) (.cells (cxC (.slice ya1 n1 yc1) (.slice ya2 n2 yc2) ps) 35); have HB4 := Lib.hid (belowU (hG.toBelow HB1.out (Nat.le_refl _) (Nat.le_refl _)) hbn); have HY4 := Lib.hid (CB.new (T := 35) w3 (cxC (.slice ya1 n1 yc1) (.slice ya2 n2 yc2) ps)); have HR1 := Lib.hid (hr1.under hbn (Nat.le_refl _)); have HR2 := Lib.hid (hr2.under hbn (Nat.le_refl _)); clear hr1 hr2 hG hbn)
     generalize w3.alloc (.cells _ 35) = W5 at *
     generalize w3.heap.size = gy at *
     have y0 : W5.cell? ⟨gy, 0, none⟩ = some (.slice ya1 n1 yc1) := HY4.out.cell 0
     have y1 : W5.cell? ⟨gy, 1, none⟩ = some (.slice ya2 n2 yc2) := HY4.out.cell 1
     have y2 : W5.cell? ⟨gy, 2, none⟩ = some (.int .i64 ps) := HY4.out.cell 2
     have HB6 := Lib.hid (belowU HB4.out ((Below.refl W5.heap.size W5).alloc (Nat.le_refl _) (.cells (cxC (.slice ya1 n1 yc1) (.slice ya2 n2 yc2) ps) 35)))
     have HROW := Lib.hid (HI.out.row.below HB6.out)
     have HNEW := Lib.hid (cx_news W5 (.slice ya1 n1 yc1) (.slice ya2 n2 yc2) ps 35)
     have HRW := Lib.hid HROW.out.row
     rw [HM.out] at HRW
     have HBS := Lib.hid (belowU HI.out.bel HB6.out).size
     have HRR1 := Lib.hid (HR1.out.under ((Below.refl W5.heap.size W5).alloc (Nat.le_refl _) (.cells (cxC (.slice ya1 n1 yc1) (.slice ya2 n2 yc2) ps) 35)) (Nat.le_refl _))
     have HRR2 := Lib.hid (HR2.out.under ((Below.refl W5.heap.size W5).alloc (Nat.le_refl _) (.cells (cxC (.slice ya1 n1 yc1) (.slice ya2 n2 yc2) ps) 35)) (Nat.le_refl _))
     have HBL := Lib.hid (belowU HI.out.bel HB6.out)
     obtain rfl := hq c rfl
     have hw1 := wrap_succ1 (Nat.le_trans hin hnle)
     have hw2 := wrap_succ2 (Nat.le_trans hin hnle)
     go_wp2_with (at_builtin; refine wpList_append_lies _ rfl _ _ 26 rfl w2.heap.size 35 i0 (.agg cxZ) 3 56 Tryz.underlying26 hi0 hz0 hz1 hz2 rfl (by decide) (.slice aa m ac) m (ka.flatMap Prod.fst) rfl HRW.out ⟨_, 0, none⟩ 1 1 (cxC (.slice ya1 n1 yc1) (.slice ya2 n2 yc2) ps).toList rfl rfl HNEW.out (cx_oneL _ _ _ _ _ _ _) (by decide) HAB.out.1 HAB.out.2 HBS.out _ rfl ?_; intro g7 cap7 w7 hown7 hgrow7 hat7 hlt7)
     have hob : ∀ q, wo.heap.size ≤ q → (Value.slice aa m ac).ownBlock ≠ some q := fun q hq e => absurd hq (Nat.not_le.2 (World.ownsRow.lt HI.out.row.row q e).2)
     have hce := cx_cells (HRR1.out.weak (Q := fun q => w2.heap.size ≤ q ∧ (Value.slice aa m ac).ownBlock ≠ some q) fun q _ hq => ⟨Nat.le_trans HI.out.bel.size (Nat.le_trans HB1.out.size hq), hob q (Nat.le_trans HB1.out.size hq)⟩) (HRR2.out.weak (Q := fun q => w2.heap.size ≤ q ∧ (Value.slice aa m ac).ownBlock ≠ some q) fun q _ hq => ⟨Nat.le_trans HI.out.bel.size (Nat.le_trans HB1.out.size hq), hob q (Nat.le_trans HB1.out.size hq)⟩) ps
     have hpush := HROW.out.push HM.out hown7 hgrow7 hat7 hce
     have hbel := HBL.out.grown hgrow7 HBS.out (fun q hq => (World.ownsRow.lt HRW.out q hq).1)
     go_roundw
     case rel =>
      refine ⟨i + 1, _, _, rfl, rfl, ⟨hpush, ?_, his, fun hf2 j hj hji => ?_, hbel⟩⟩
      · rw [got_yes his HCN.out, List.map_append, HI.out.got, cxsDt_map, cxsDt_map, List.map_append]
        rfl
      · by_cases e : j = i
        · subst e
          rw [HCN.out]
          rfl
        · exact HI.out.all hf2 j hj (Nat.lt_of_le_of_ne (Nat.lt_succ_iff.1 hji) e)
     case measure => exact meas_succ hlt
  · obtain rfl : i = n := by omega
    have HXE : Hid (R = if 16 < m then none else some (gotS f (splS l) i)) := by
     show _ = _
     have h := HEND.out (fun hf2 j hj => HI.out.all hf2 j hj (by rw [HN0.out]; exact hj))
     rw [← HN0.out] at h
     have h3 := congrArg List.length HI.out.got
     rw [List.length_map, cxsDt_len, HM.out] at h3
     rw [h, ← h3]
    have hxn : ¬ (i : Int) < (i : Int) := by omega
    have hxnb : decide ((i : Int) < (i : Int)) = false := decide_eq_false hxn
    by_cases h16 : 16 < m
    · have HRE : Hid (R = none) := by show _ = _; rw [HXE.out, if_pos h16]
      have h16I : (16 : Int) < (m : Int) := by omega
      have h16b : decide ((16 : Int) < (m : Int)) = true := decide_eq_true h16I
      go_wp2
      refine bodyPost_ret (v := .tuple #[.slice none 0 0, .bool false]) (by simp [results, Tryz.results14, go_sem]) rfl ?_
      exact ⟨⟨[], _, by rw [HRE.out]; rfl, by rw [cxsDt]; exact rdG.nil _ _ _ _ _, fun s h => by rw [HRE.out] at h; cases h⟩, belowU HB2.out HI.out.bel⟩
    · have HRE : Hid (R = some (gotS f (splS l) i)) := by show _ = _; rw [HXE.out, if_neg h16]
      have h16I : ¬ (16 : Int) < (m : Int) := by omega
      have h16b : decide ((16 : Int) < (m : Int)) = false := decide_eq_false h16I
      go_wp2
      refine bodyPost_ret (v := .tuple #[.slice aa m ac, .bool true]) (by simp [results, Tryz.results14, go_sem]) rfl ?_
      refine ⟨⟨_, _, by rw [HRE.out]; rfl, ?_, fun s h => by rw [HRE.out] at h; cases h; rfl⟩, belowU HB2.out HI.out.bel⟩
      have h := HI.out.row.rd
      rw [HI.out.got] at h
      exact h.weak fun q _ hq => by have := HB2.out.size; rcases hq with hq | hq <;> omega
end Go.Proofs.YtclicjiakkcfcaaGreatDoor
