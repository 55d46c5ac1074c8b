import Derived.Test.YtclicjiakkcfcaaGreatDoorSmR
set_option maxRecDepth 100000
set_option maxHeartbeats 12800000
namespace Go.Proofs.YtclicjiakkcfcaaGreatDoor
open Go.RowKit
section
variable (tx : Int → Int → ByteArray)
theorem pcSm_len (s : SmD) : (pcSm tx s).length ≤ 2 := by
 cases s with
 | mk k n o x f a b l =>
  rw [pcSm]
  repeat' split
  all_goals simp
def restP (Pt : List CmD) (cb : List ByteArray) (i : Nat) : List Pc := if i = 0 then pcFirst tx Pt cb else pcMore tx (Pt.drop i) (cb.drop (i - 1))
theorem restP_end (Pt : List CmD) (cb : List ByteArray) : restP tx Pt cb Pt.length = [] := by
 unfold restP
 cases Pt with
 | nil => rfl
 | cons c l =>
  rw [if_neg (by simp), List.drop_of_length_le (Nat.le_refl _)]
  rfl
theorem restP_zero {Pt : List CmD} {cb : List ByteArray} (h : 0 < Pt.length) : restP tx Pt cb 0 = pcCm tx Pt[0] ++ restP tx Pt cb 1 := by
 cases Pt with
 | nil => simp at h
 | cons c l => rfl
theorem restP_comb {Pt : List CmD} {cb : List ByteArray} {i : Nat} (h : i + 1 < Pt.length) (hc : i < cb.length) : restP tx Pt cb (i + 1) = (betS cb[i], []) :: (pcCm tx Pt[i + 1] ++ restP tx Pt cb (i + 1 + 1)) := by
 unfold restP
 rw [if_neg (by simp), if_neg (by simp), List.drop_eq_getElem_cons h, Nat.add_sub_cancel, Nat.add_sub_cancel, List.drop_eq_getElem_cons hc]
 rfl
theorem restP_none {Pt : List CmD} {cb : List ByteArray} {i : Nat} (h : i + 1 < Pt.length) (hc : ¬ i < cb.length) : restP tx Pt cb (i + 1) = pcCm tx Pt[i + 1] ++ restP tx Pt cb (i + 1 + 1) := by
 unfold restP
 rw [if_neg (by simp), if_neg (by simp), List.drop_eq_getElem_cons h, Nat.add_sub_cancel, Nat.add_sub_cancel, List.drop_of_length_le (l := cb) (i := i) (by omega), List.drop_of_length_le (l := cb) (i := i + 1) (by omega)]
 rfl
theorem pcSms_step {S : List SmD} {j : Nat} (h : j < S.length) : pcSms tx (S.drop j) = pcSm tx S[j] ++ pcSms tx (S.drop (j + 1)) := by
 rw [List.drop_eq_getElem_cons h, pcSms]
theorem pcSms_end (S : List SmD) : pcSms tx (S.drop S.length) = [] := by
 rw [List.drop_of_length_le (Nat.le_refl _)]
 rfl
end
theorem gb_then {a b c : World} {row row' : Option Nat} (h : a.grownBy b row) (k : b.grownBy c row') (hr : ∀ j, row' = some j → a.heap.size ≤ j ∨ row = some j) : a.grownBy c row :=
 ⟨k.os.trans h.os, k.tape.trans h.tape, k.output.trans h.output, Nat.le_trans h.size k.size, fun i hi hn => (k.block i (Nat.lt_of_lt_of_le hi h.size) (fun e => by
  rcases hr i e.symm with h1 | h1
  · omega
  · exact hn h1.symm)).trans (h.block i hi hn)⟩
structure AcI (g0 B : Nat) (K : World → Prop) (w : World) (v0 : Value) (bx : Array Value) (v : Value) (ps : List Pc) (wr : World) : Prop where
  row : PcW B wr v ps
  gw : w.grownBy wr v0.ownBlock
  at' : v.ownBlock = v0.ownBlock ∨ ∀ q, v.ownBlock = some q → w.heap.size < q
  tab : TabK g0 K wr
  box : CB 35 wr w.heap.size bx
  old : ∀ q, v0.ownBlock = some q → B ≤ q ∧ q < w.heap.size
  base : g0 ≤ B ∧ B ≤ w.heap.size
section
variable {g0 B : Nat} {K : World → Prop} {tx : Int → Int → ByteArray} {w wr w' : World} {v0 v v' : Value} {bx : Array Value} {ps ps' : List Pc}
theorem AcI.own (h : AcI g0 B K w v0 bx v ps wr) : ∀ q, v.ownBlock = some q → B ≤ q ∧ q ≠ w.heap.size := fun q hq => by
 rcases h.at' with h1 | h1
 · have := h.old q (h1 ▸ hq)
   omega
 · have h2 := h1 q hq
   have := h.base.2
   omega
theorem AcI.below (hx : TxOk g0 K tx) (h : AcI g0 B K w v0 bx v ps wr) (hb : Below wr.heap.size wr w') : AcI g0 B K w v0 bx v ps w' :=
 ⟨h.row.below hb, gb_trans h.gw (gb_below hb _), h.at', h.tab.below hx hb, h.box.below hb h.box.lt, h.old, h.base⟩
theorem AcI.step (hx : TxOk g0 K tx) (h : AcI g0 B K w v0 bx v ps wr) (hp : PcPost B wr v ps' (.returned v') w') : AcI g0 B K w v0 bx v' ps' w' := by
 obtain ⟨v2, he, h1, h2, h3⟩ := hp
 injection he with he
 subst he
 have ho := h.own
 have hbl := h.box.lt
 refine ⟨h1, gb_then h.gw h2 (fun j hj => ?_), ?_, h.tab.grown hx h2 fun q hq => Nat.le_trans h.base.1 (ho q hq).1, h.box.grows h2 fun e => (ho _ e.symm).2 rfl, h.old, h.base⟩
 · rcases h.at' with h4 | h4
   · exact .inr (h4 ▸ hj)
   · exact .inl (Nat.le_of_lt (h4 j hj))
 · rcases h3 with h3 | h3
   · rw [h3]
     exact h.at'
   · exact .inr fun q hq => Nat.lt_of_lt_of_le hbl (h3 q hq)
theorem AcI.fin (h : AcI g0 B K w v0 bx v ps wr) : PcPost B w v0 ps (.returned v) wr := by
 refine ⟨v, rfl, h.row, h.gw, ?_⟩
 rcases h.at' with h1 | h1
 · exact .inl h1
 · exact .inr fun q hq => Nat.le_of_lt (h1 q hq)
theorem AcI.keep (h : AcI g0 B K w v0 bx v ps wr) : ∀ b, b < B → wr.heap[b]? = w.heap[b]? := fun b hb =>
 h.gw.block b (Nat.lt_of_lt_of_le hb h.base.2) fun e => by have := (h.old b e.symm).1; omega
theorem AcI.rd (h : AcI g0 B K w v0 bx v ps wr) {d : Dt} {u : Value} (hr : rdG w (fun b => b < B) d u) : rdG wr (fun b => b < B) d u :=
 rdG.move (fun _ _ h => h) (fun b hb _ => h.keep b hb) h.gw.size _ _ hr
theorem AcI.len (h : AcI g0 B K w v0 bx v ps wr) : B ≤ wr.heap.size := Nat.le_trans h.base.2 h.gw.size
theorem pc_other {T : TypeId} {b : Nat} {cs : Array Value} (hb : CB T wr b cs) (hn : ∀ q, v.ownBlock = some q → q ≠ b) (hp : PcPost B wr v ps' (.returned v') w') : CB T w' b cs := by
 obtain ⟨v2, he, h1, h2, h3⟩ := hp
 exact hb.grows h2 fun e => hn _ e.symm rfl
theorem wpList_pc_one {ops : Array Oper} {rest : List Oper} {o : Oper} {a : Act} {Q : Exit → Act → World → Prop} (hgd : o.guard = none) (s x : Operand)
    (ho : o.op = .call { callee := .builtin .append, args := #[s, x], argTypes := #[ 76, 76 ] })
    {t : ByteArray} (h : PcW B w v ps) (hB : B ≤ w.heap.size) (hn : ps.length ≤ 1000000000) (hs : a.eval s = v) (hx : a.eval x = .slice (some ⟨w.heap.size, 0, none⟩) 1 1)
    (hK : ∀ v' w', PcPost B w v (ps ++ [(t, [])]) (.returned v') w' → wpList Tryz.prog ops Q rest (a.put o.dst v') w') :
    wpList Tryz.prog ops Q (o :: rest) a (w.alloc (.cells #[.string t, .slice none 0 0] 80)) := by
  obtain ⟨i0, hi0, hz0, hz1, hz2⟩ := info_parts info_pc
  obtain ⟨ks, hls, hm⟩ := h
  have hkl := PcW.len hm
  have hb := bel_newS w (.cells #[.string t, .slice none 0 0] 80)
  have hbn := pc_bnd (m := 1) hn (by decide)
  refine wpList_append_lies _ hgd s x 76 ho B 80 i0 pcZ 2 40 Tryz.underlying76 hi0 hz0 hz1 hz2 rfl (by decide) v ks.length (ks.flatMap Prod.fst) hs (hls.below hb).row ⟨_, 0, none⟩ 1 1 [.string t, .slice none 0 0] hx rfl (pc_news w t (.slice none 0 0) 80) (pc_oneL _ _ _ _) (by decide) (by rw [hkl]; exact hbn.1) (by rw [hkl]; exact hbn.2) (Nat.le_trans hB hb.size) _ rfl ?_
  intro g cap w7 hown7 hgrow7 hat7 hlt7
  exact hK _ _ (pc_end (m := 1) (es := [([.string t, .slice none 0 0], pcDt (t, []))]) (pp := [(t, [])]) hls hm rfl hb rfl rfl (pc_one (nil_rd _ _)) (by simpa using hown7) hgrow7 hat7)
end
section
variable (tx : Int → Int → ByteArray)
theorem restP_step {Pt : List CmD} {cb : List ByteArray} {i : Nat} (h : i < Pt.length) : restP tx Pt cb i = (if (decide (0 < i) && decide (i ≤ cb.length)) = true then [(betS (cb.getD (i - 1) eB), [])] else []) ++ (pcCm tx Pt[i] ++ restP tx Pt cb (i + 1)) := by
 cases i with
 | zero => exact restP_zero tx h
 | succ i =>
  by_cases hc : i < cb.length
  · rw [restP_comb tx h hc, if_pos (by simp; omega)]
    simp [List.getD, List.getElem?_eq_getElem hc]
  · rw [restP_none tx h hc, if_neg (by simp; omega)]
    rfl
end
theorem oneAt {w : World} {Q : Nat → Prop} {cb : List ByteArray} {v : Value} (h : rdG w Q (.sl 1 (cbDt cb)) v) {i : Nat} (hi : i < cb.length) : ∃ b off c, v = .slice (some ⟨b, off, none⟩) cb.length c ∧ Q b ∧ w.cell? ⟨b, off + i, none⟩ = some (.string (cb.getD i eB)) := by
 obtain ⟨b, off, c, hv, hQ, hb, hr⟩ := h.rowAt (Nat.lt_of_le_of_lt (Nat.zero_le _) hi)
 obtain ⟨u, hu, hd⟩ := hr i hi 0 (by simp)
 simp only [List.getElem_cons_zero] at hd
 obtain rfl := hd.leaf
 refine ⟨b, off, c, hv, hQ, ?_⟩
 rw [Nat.mul_one, Nat.add_zero] at hu
 rw [hu]
 simp [List.getD, List.getElem?_eq_getElem hi]
theorem ch_b1 {c n0 i : Nat} (h : c ≤ n0 + 40 * i) (hn : n0 ≤ 900000000) (hi : i ≤ 8) : c ≤ 1000000000 := by omega
theorem ch_b2 {c n0 i : Nat} (h : c ≤ n0 + 40 * i + 1) (hn : n0 ≤ 900000000) (hi : i ≤ 8) : c ≤ 1000000000 := by omega
theorem ch_b3 {c n0 i j : Nat} (h : c ≤ n0 + 40 * i + 2 + 2 * j) (hn : n0 ≤ 900000000) (hi : i ≤ 8) (hj : j ≤ 16) : c ≤ 1000000000 := by omega
theorem ch_b4 {c n0 i j : Nat} (h : c ≤ n0 + 40 * i + 2 + 2 * j) (hj : j ≤ 16) : c ≤ n0 + 40 * (i + 1) := by omega
theorem ch_b5 {c d n0 i j : Nat} (h : c ≤ n0 + 40 * i + 2 + 2 * j) (hd : d ≤ 2) : c + d ≤ n0 + 40 * i + 2 + 2 * (j + 1) := by omega
theorem pc_swap {B : Nat} {w w' : World} {v : Value} {ps : List Pc} {e : Ending} (h : PcPost B w v ps e w') : ∃ v', e = .returned v' ∧ PcPost B w v ps (.returned v') w' := by
 obtain ⟨v', rfl, h1⟩ := h
 exact ⟨v', rfl, v', rfl, h1⟩
theorem pc_far {B : Nat} {w w' : World} {v v' : Value} {ps : List Pc} {b : Nat} (h : PcPost B w v ps (.returned v') w') (hn : ∀ q, v.ownBlock = some q → q ≠ b) (hb : b < w.heap.size) : ∀ q, v'.ownBlock = some q → q ≠ b := by
 obtain ⟨v2, he, h1, h2, h3⟩ := h
 injection he with he
 subst he
 intro q hq
 rcases h3 with h3 | h3
 · exact hn q (h3 ▸ hq)
 · have := h3 q hq
   omega
theorem isEl_nat {pe : Int} (h : isElS pe = true) : ∃ j : Nat, pe = (j : Int) ∧ 1 ≤ j ∧ j ≤ 5 := by
 unfold isElS at h
 simp at h
 exact ⟨pe.toNat, by omega, by omega, by omega⟩
theorem TabK.elem {g0 : Nat} {K : World → Prop} {w : World} (h : TabK g0 K w) (j : Nat) (hj : j < 6) : w.cell? ⟨0, j, none⟩ = some (.string (elW j)) := by
 have h1 := range_word h.tab.el j (by exact hj)
 rw [h1]
 unfold elW
 have h2 : elL.getD ((j : Int).toNat) eB = elL[j]'(by exact hj) := by
  rw [Int.toNat_natCast]
  simp [List.getD, List.getElem?_eq_getElem (show j < elL.length from hj)]
 rw [h2]
theorem elW_size (j : Nat) (hj : j < 6) : (elW j).size ≤ 20 := by
 rcases j with _ | _ | _ | _ | _ | _ | j
 · decide
 · decide
 · decide
 · decide
 · decide
 · decide
 · omega
theorem addChain_any {g0 B : Nat} {K : World → Prop} {tx : Int → Int → ByteArray} {w : World} {v u1 u2 : Value} {pcs : List Pc} {Pt : List CmD} {cb : List ByteArray} {pe : Int} (hx : TxOk g0 K tx) (ht : TabK g0 K w) (hp : PcW B w v pcs) (hB : B ≤ w.heap.size) (hg0 : g0 ≤ B) (h1 : rdG w (fun b => b < B) (.sl 2 (cmsDt Pt)) u1) (h2 : rdG w (fun b => b < B) (.sl 1 (cbDt cb)) u2) (hok : okCx (.mk Pt cb pe)) (hv : vCx (.mk Pt cb pe)) (hn : pcs.length ≤ 900000000) :
    Calls Tryz.prog 21 #[v, .agg (cxC u1 u2 pe)] w (PcPost B w v (pcs ++ pcCx tx (.mk Pt cb pe))) := by
  rw [okCx] at hok
  rw [vCx] at hv
  rw [cmsDt_map] at h1
  have HRT := Lib.hid h1
  have HRC := Lib.hid h2
  have HOK := Lib.hid hok.2
  have HV := Lib.hid hv.1
  have HVC := Lib.hid hv.2
  have hP := hok.1
  have HX := Lib.hid hx
  obtain ⟨ua1, uc1, rfl, _⟩ := h1.shape
  obtain ⟨ua2, uc2, rfl, _⟩ := h2.shape
  rw [List.length_map] at HRT
  rw [List.length_map] at HRC
  rw [List.length_map, List.length_map]
  obtain ⟨N, hN⟩ : ∃ N, Pt.length = N := ⟨_, rfl⟩
  obtain ⟨C, hC⟩ : ∃ C, cb.length = C := ⟨_, rfl⟩
  obtain ⟨n0, hn0⟩ : ∃ n0, pcs.length = n0 := ⟨_, rfl⟩
  have HN := Lib.hid hN
  have HC := Lib.hid hC
  have HN0 := Lib.hid hn0
  rw [hN] at hP HRT ⊢
  rw [hC] at HRC ⊢
  rw [hn0] at hn
  obtain ⟨Tot, hTot⟩ : ∃ T, pcs ++ restP tx Pt cb 0 = T := ⟨_, rfl⟩
  have HTOT := Lib.hid hTot
  obtain ⟨R, hR⟩ : ∃ R, pcs ++ pcCx tx (.mk Pt cb pe) = R := ⟨_, rfl⟩
  have HRR : Hid (Tot ++ (if isElS pe = true then [(⟨#[58, 58]⟩ ++ elW pe, [])] else []) = R) := by
   show _ = _
   rw [← hTot, ← hR, pcCx, List.append_assoc]
   rfl
  rw [hR]
  have HI1 : Hid (AcI g0 B K w v (cxC (.slice ua1 N uc1) (.slice ua2 C uc2) pe) v pcs (w.alloc (.cells (cxC (.slice ua1 N uc1) (.slice ua2 C uc2) pe) 35))) :=
   ⟨hp.below (bel_newS w _), gb_below (bel_newS w _) _, .inl rfl, ht.below hx (bel_newS w _), CB.new _ _, hp.lt, hg0, hB⟩
  clear h1 h2 hok hv hN hC hn0 hTot hR hx ht hp
  go_enter Tryz.func21, Tryz.ntmps21
  go_upto_region 1 with fail
  generalize w.alloc (.cells _ 35) = W1 at *
  obtain ⟨bx, hbx⟩ : ∃ bx, cxC (.slice ua1 N uc1) (.slice ua2 C uc2) pe = bx := ⟨_, rfl⟩
  rw [hbx] at HI1
  have HX0 : Hid (bx[0]? = some (.slice ua1 N uc1)) := by show _ = _; rw [← hbx]; rfl
  have HX1 : Hid (bx[1]? = some (.slice ua2 C uc2)) := by show _ = _; rw [← hbx]; rfl
  have HX2 : Hid (bx[2]? = some (.int .i64 pe)) := by show _ = _; rw [← hbx]; rfl
  clear hbx
  have d0 : W1.cell? ⟨w.heap.size, 0, none⟩ = some (.slice ua1 N uc1) := (HI1.out.box.cell 0).trans HX0.out
  go_wp2
  clear d0
  go_loopw [0, 12] (fun av iv wr => ∃ (i : Nat) (a0 : Value) (cur : List Pc), a0 = av ∧ iv = .int .i64 i ∧ AcI g0 B K w v bx a0 cur wr ∧ i ≤ N ∧ cur ++ restP tx Pt cb i = Tot ∧ cur.length ≤ n0 + 40 * i) (fun _ iv _ => N - (intOf iv).toNat)
  case atStart => exact ⟨0, _, _, rfl, rfl, HI1.out, Nat.zero_le _, HTOT.out, by rw [HN0.out]; exact Nat.le_refl _⟩
  case round =>
   obtain ⟨i, av, cur, rfl, rfl, hI, hiN, hcur, hcl⟩ := hrel
   clear HI1 HTOT
   have HI := Lib.hid hI
   have HCUR := Lib.hid hcur
   have HCL := Lib.hid hcl
   clear hI hcur hcl
   by_cases hlt : i < N
   · have hiP : i < Pt.length := by rw [HN.out]; exact hlt
     obtain ⟨b, off, c, hv, hbB, hbl, hrow⟩ := HRT.out.rowAt (Nat.lt_of_le_of_lt (Nat.zero_le _) hiP)
     rw [HN.out] at hv
     injection hv with e1 _ e3
     subst e1 e3
     obtain ⟨t, S, sa, sc, hPi, p0, p1, hSr⟩ := rdG.cmAt hrow i hiP
     replace p0 : wr.cell? ⟨b, off + i * 2, none⟩ = some (.string t) := (World.cell?_of_block (a := ⟨b, off + i * 2, none⟩) (HI.out.keep b hbB)).trans p0
     replace p1 : wr.cell? ⟨b, off + i * 2 + 1, none⟩ = some (.slice sa S.length sc) := (World.cell?_of_block (a := ⟨b, off + i * 2 + 1, none⟩) (HI.out.keep b hbB)).trans p1
     have hcm := okCms_mem _ HOK.out _ (List.getElem_mem hiP)
     have hvm := vCms_mem HV.out _ (List.getElem_mem hiP)
     have hst := restP_step tx (cb := cb) hiP
     rw [hPi] at hcm hvm hst
     rw [okCm] at hcm
     rw [vCm] at hvm
     rw [hst, HC.out] at HCUR
     have HS16 := Lib.hid hcm.1
     have HVS := Lib.hid hvm.2
     have htz := hvm.1
     rw [smsDt_map] at hSr
     have HSR := Lib.hid hSr
     obtain ⟨M, hM⟩ : ∃ M, S.length = M := ⟨_, rfl⟩
     rw [hM] at p1 HSR HS16
     have HSM := Lib.hid hM
     obtain ⟨R1, hR1⟩ : ∃ R, restP tx Pt cb (i + 1) = R := ⟨_, rfl⟩
     rw [hR1] at HCUR
     have HR1 := Lib.hid hR1
     have hi8 : i ≤ 8 := Nat.le_of_lt (Nat.lt_of_lt_of_le hlt hP)
     obtain ⟨TT, hTT⟩ : ∃ x, (decide (0 < i) && decide (i ≤ C)) = x := ⟨_, rfl⟩
     rw [hTT] at HCUR
     have HTT := Lib.hid hTT
     clear hrow hSr hPi hM hcm hvm hst hR1 hTT
     have hx0 : (0 : Int) ≤ (i : Int) := Int.natCast_nonneg i
     have hx1 : (i : Int) < (N : Int) := Int.ofNat_lt.2 hlt
     have hx1b : decide ((i : Int) < (N : Int)) = true := decide_eq_true hx1
     have HI3 := Lib.hid (HI.out.below HX.out (bel_newS wr (.cells (cmpC t (.slice sa M sc)) 70)))
     have HP3 := Lib.hid (CB.new (T := 70) wr (cmpC t (.slice sa M sc)))
     have HGP : Hid (∀ q, av.ownBlock = some q → q ≠ wr.heap.size) := fun q hq => Nat.ne_of_lt (HI.out.row.lt q hq).2
     go_upto_region 4 with fail
     generalize wr.alloc (.cells _ 70) = W3 at *
     generalize wr.heap.size = gp at *
     have d1 : W3.cell? ⟨w.heap.size, 1, none⟩ = some (.slice ua2 C uc2) := (HI3.out.box.cell 1).trans HX1.out
     go_cut [25] from 13 to 54 (fun cv wx => cv = .bool TT ∧ wx = W3)
     case first =>
      by_cases h0 : 0 < i
      · have h0I : (0 : Int) < (i : Int) := Int.ofNat_lt.2 h0
        by_cases hc : i ≤ C
        · have hcI : (i : Int) ≤ (C : Int) := Int.ofNat_le.2 hc
          have HV2 : Hid (TT = true) := by show _ = _; rw [← HTT.out, decide_eq_true h0, decide_eq_true hc]; rfl
          go_wp2
          go_meet
          exact ⟨by rw [HV2.out], rfl⟩
        · have hcI : ¬ (i : Int) ≤ (C : Int) := fun h => hc (Int.ofNat_le.1 h)
          have HV2 : Hid (TT = false) := by show _ = _; rw [← HTT.out, decide_eq_false hc, Bool.and_false]
          go_wp2
          go_meet
          exact ⟨by rw [HV2.out], rfl⟩
      · have h0I : ¬ (0 : Int) < (i : Int) := fun h => h0 (Int.ofNat_lt.1 h)
        have HV2 : Hid (TT = false) := by show _ = _; rw [← HTT.out, decide_eq_false h0, Bool.false_and]
        go_wp2
        go_meet
        exact ⟨by rw [HV2.out], rfl⟩
     case rest =>
      obtain ⟨rfl, hwc⟩ := hcut
      obtain ⟨W4', rfl⟩ : ∃ w5 : World, w5 = wc := ⟨_, rfl⟩
      subst hwc
      clear d1
      go_upto_if 25 with fail
      go_cut [0] from 13 to 54 (fun a2 wx => ∃ (a1 : Value) (cur2 : List Pc), a1 = a2 ∧ AcI g0 B K w v bx a1 cur2 wx ∧ CB 70 wx gp (cmpC t (.slice sa M sc)) ∧ (∀ q, a1.ownBlock = some q → q ≠ gp) ∧ cur2 ++ (pcCm tx (.mk t S) ++ R1) = Tot ∧ cur2.length ≤ n0 + 40 * i + 1)
      case first =>
       cases hTT : TT
       · rw [hTT] at HCUR
         have HCU : Hid (cur ++ (pcCm tx (.mk t S) ++ R1) = Tot) := HCUR.out
         go_wp2
         go_meet
         exact ⟨_, cur, rfl, HI3.out, HP3.out, HGP.out, HCU.out, Nat.le_succ_of_le HCL.out⟩
       · rw [hTT] at HCUR
         have h := HTT.out
         rw [hTT] at h
         simp only [Bool.and_eq_true, decide_eq_true_eq] at h
         obtain ⟨h0, hc⟩ := h
         have hci : i - 1 < cb.length := by rw [HC.out]; omega
         obtain ⟨b2, off2, c2, hv2, hb2, y0⟩ := oneAt HRC.out hci
         rw [HC.out] at hv2
         injection hv2 with e1 _ e3
         subst e1 e3
         have hbs : (cb.getD (i - 1) eB).size ≤ 100000000 := HVC.out _ (by simp [List.getD, List.getElem?_eq_getElem hci])
         obtain ⟨ct, hct⟩ : ∃ x, cb.getD (i - 1) eB = x := ⟨_, rfl⟩
         rw [hct] at y0 hbs HCUR
         obtain ⟨bt, hbt⟩ : ∃ x, betS ct = x := ⟨_, rfl⟩
         have HBE := Lib.hid (fun W => bet_any ct (Nat.le_trans hbs (by decide)) W)
         rw [hbt] at HCUR HBE
         have HCU : Hid (cur ++ [(bt, [])] ++ (pcCm tx (.mk t S) ++ R1) = Tot) := by
          show _ = _
          rw [List.append_assoc]
          exact HCUR.out
         have hq0 : (0 : Int) ≤ (i : Int) - 1 := by omega
         have hq1 : (i : Int) - 1 < (C : Int) := by omega
         replace y0 : W4'.cell? ⟨b2, off2 + (i - 1), none⟩ = some (.string ct) := (World.cell?_of_block (a := ⟨b2, off2 + (i - 1), none⟩) (HI3.out.keep b2 hb2)).trans y0
         have d1 : W4'.cell? ⟨w.heap.size, 1, none⟩ = some (.slice (some ⟨b2, off2, none⟩) C uc2) := (HI3.out.box.cell 1).trans HX1.out
         have HB3 := Lib.hid HI3.out.len
         have HN3 := Lib.hid (ch_b1 HCL.out hn hi8)
         clear h0 hc hci hbs hct hbt HCUR
         go_wp2_with (first | (go_at_call 32; refine (HBE.out _).mono ?_; rintro e w5 ⟨rfl, rfl⟩) | (at_builtin; refine wpList_pc_one rfl _ _ rfl HI3.out.row HB3.out HN3.out rfl rfl ?_; intro a5 w5 hpp; have HI5 := Lib.hid (HI3.out.step HX.out hpp); have HP5 := Lib.hid (pc_other HP3.out HGP.out hpp); have HG5 := Lib.hid (pc_far hpp HGP.out HP3.out.lt); clear hpp))
         go_meet
         exact ⟨_, _, rfl, HI5.out, HP5.out, HG5.out, HCU.out, by rw [List.length_append]; exact Nat.succ_le_succ HCL.out⟩
      case rest =>
       obtain ⟨a1, cur2, rfl, hI4, hP4, hG4, hc4, hl4⟩ := hcut
       clear HI3 HP3 HGP HCUR HCL HI p0 p1
       have HI4 := Lib.hid hI4
       have HP4 := Lib.hid hP4
       have HG4 := Lib.hid hG4
       have HB4 := Lib.hid hI4.len
       have HN4 := Lib.hid (ch_b2 hl4 hn hi8)
       have HC4 : Hid (cur2 ++ [(t, [])] ++ (pcSms tx (S.drop 0) ++ R1) = Tot) := by
        show _ = _
        rw [List.append_assoc]
        exact hc4
       have HL4 : Hid ((cur2 ++ [(t, [])]).length ≤ n0 + 40 * i + 2 + 2 * 0) := by
        show _ ≤ _
        rw [List.length_append]
        exact Nat.succ_le_succ hl4
       have q0 : wc.cell? ⟨gp, 0, none⟩ = some (.string t) := hP4.cell 0
       clear hI4 hP4 hG4 hc4 hl4
       go_wp2_with (at_builtin; refine wpList_pc_one rfl _ _ rfl HI4.out.row HB4.out HN4.out rfl rfl ?_; intro a5 w5 hpp; have HI5 := Lib.hid (HI4.out.step HX.out hpp); have HP5 := Lib.hid (pc_other HP4.out HG4.out hpp); clear hpp; have q1 : w5.cell? ⟨gp, 1, none⟩ = some (.slice sa M sc) := HP5.out.cell 1)
       clear q0 q1
       obtain ⟨cur3, hcur3⟩ : ∃ x, cur2 ++ [(t, [])] = x := ⟨_, rfl⟩
       rw [hcur3] at HI5 HC4 HL4
       clear hcur3
       go_loopw [0, 46] (fun av jv wr => ∃ (j : Nat) (a0 : Value) (cur : List Pc), a0 = av ∧ jv = .int .i64 j ∧ AcI g0 B K w v bx a0 cur wr ∧ j ≤ M ∧ cur ++ (pcSms tx (S.drop j) ++ R1) = Tot ∧ cur.length ≤ n0 + 40 * i + 2 + 2 * j) (fun _ jv _ => M - (intOf jv).toNat)
       case atStart => exact ⟨0, _, _, rfl, rfl, HI5.out, Nat.zero_le _, HC4.out, HL4.out⟩
       case round =>
        clear HI5 HC4 HL4 HI4 HP4 HG4 HB4 HN4
        obtain ⟨j, av, cur, rfl, rfl, hI, hjM0, hcur, hcl⟩ := hrel
        have HI := Lib.hid hI
        have HCUR := Lib.hid hcur
        have HCL := Lib.hid hcl
        clear hI hcur hcl
        by_cases hjM : j < M
        · have hjS : j < S.length := by rw [HSM.out]; exact hjM
          obtain ⟨b2, off2, cc2, hv2, hbB2, hb2, hrow2⟩ := HSR.out.rowAt (Nat.lt_of_le_of_lt (Nat.zero_le _) hjS)
          rw [HSM.out] at hv2
          injection hv2 with e1 _ e3
          subst e1 e3
          obtain ⟨k, n, o, x, f, a, b', L, ua, uc, hSj, c0, c1, c2', c3, c4, c5, c6, c7, hLr⟩ := rdG.smAt hrow2 j hjS
          have hvs := vSms_mem HVS.out _ (List.getElem_mem hjS)
          have hst := pcSms_step tx hjS
          rw [hSj] at hvs hst
          rw [hst] at HCUR
          have HLR := Lib.hid (HI.out.rd hLr)
          have HVJ := Lib.hid hvs
          replace c0 : wr.cell? ⟨b2, off2 + j * 8, none⟩ = _ := (World.cell?_of_block (a := ⟨b2, off2 + j * 8, none⟩) (HI.out.keep b2 hbB2)).trans c0
          replace c1 : wr.cell? ⟨b2, off2 + j * 8 + 1, none⟩ = _ := (World.cell?_of_block (a := ⟨b2, off2 + j * 8 + 1, none⟩) (HI.out.keep b2 hbB2)).trans c1
          replace c2' : wr.cell? ⟨b2, off2 + j * 8 + 2, none⟩ = _ := (World.cell?_of_block (a := ⟨b2, off2 + j * 8 + 2, none⟩) (HI.out.keep b2 hbB2)).trans c2'
          replace c3 : wr.cell? ⟨b2, off2 + j * 8 + 3, none⟩ = _ := (World.cell?_of_block (a := ⟨b2, off2 + j * 8 + 3, none⟩) (HI.out.keep b2 hbB2)).trans c3
          replace c4 : wr.cell? ⟨b2, off2 + j * 8 + 4, none⟩ = _ := (World.cell?_of_block (a := ⟨b2, off2 + j * 8 + 4, none⟩) (HI.out.keep b2 hbB2)).trans c4
          replace c5 : wr.cell? ⟨b2, off2 + j * 8 + 5, none⟩ = _ := (World.cell?_of_block (a := ⟨b2, off2 + j * 8 + 5, none⟩) (HI.out.keep b2 hbB2)).trans c5
          replace c6 : wr.cell? ⟨b2, off2 + j * 8 + 6, none⟩ = _ := (World.cell?_of_block (a := ⟨b2, off2 + j * 8 + 6, none⟩) (HI.out.keep b2 hbB2)).trans c6
          replace c7 : wr.cell? ⟨b2, off2 + j * 8 + 7, none⟩ = _ := (World.cell?_of_block (a := ⟨b2, off2 + j * 8 + 7, none⟩) (HI.out.keep b2 hbB2)).trans c7
          obtain ⟨ul, hul⟩ : ∃ x, L.length = x := ⟨_, rfl⟩
          rw [hul] at c7 HLR
          have HI6 := Lib.hid (HI.out.below HX.out (bel_newS wr (.cells (simC k n o x f a b' (.slice ua ul uc)) 72)))
          have HSB := Lib.hid (CB.new (T := 72) wr (simC k n o x f a b' (.slice ua ul uc)))
          have HLR6 := Lib.hid (HLR.out.under (bel_newS wr (.cells (simC k n o x f a b' (.slice ua ul uc)) 72)) (Nat.le_refl _))
          have hy0 : (0 : Int) ≤ (j : Int) := Int.natCast_nonneg j
          have hy1 : (j : Int) < (M : Int) := Int.ofNat_lt.2 hjM
          have hy1b : decide ((j : Int) < (M : Int)) = true := decide_eq_true hy1
          have hwj := wrap_succ1 (Nat.le_trans hjM0 (Nat.le_trans HS16.out (by decide)))
          have HCU : Hid (cur ++ pcSm tx (.mk k n o x f a b' L) ++ (pcSms tx (S.drop (j + 1)) ++ R1) = Tot) := by
           show _ = _
           rw [← HCUR.out]
           simp only [List.append_assoc]
          have HN6 := Lib.hid (ch_b3 HCL.out hn hi8 (Nat.le_trans hjM0 HS16.out))
          have HLE : Hid ((cur ++ pcSm tx (.mk k n o x f a b' L)).length ≤ n0 + 40 * i + 2 + 2 * (j + 1)) := by
           show _ ≤ _
           rw [List.length_append]
           exact ch_b5 HCL.out (pcSm_len tx _)
          clear hrow2 hLr hSj hvs hst HCUR HI HLR hul
          go_upto_region 10 with fail
          generalize wr.alloc (.cells _ 72) = W6 at *
          generalize wr.heap.size = gs at *
          have y0 : W6.cell? ⟨gs, 0, none⟩ = some (.int .i64 k) := HSB.out.cell 0
          have y1 : W6.cell? ⟨gs, 1, none⟩ = some (.string n) := HSB.out.cell 1
          have y2 : W6.cell? ⟨gs, 2, none⟩ = some (.string o) := HSB.out.cell 2
          have y3 : W6.cell? ⟨gs, 3, none⟩ = some (.string x) := HSB.out.cell 3
          have y4 : W6.cell? ⟨gs, 4, none⟩ = some (.bool f) := HSB.out.cell 4
          have y5 : W6.cell? ⟨gs, 5, none⟩ = some (.int .i64 a) := HSB.out.cell 5
          have y6 : W6.cell? ⟨gs, 6, none⟩ = some (.int .i64 b') := HSB.out.cell 6
          have y7 : W6.cell? ⟨gs, 7, none⟩ = some (.slice ua ul uc) := HSB.out.cell 7
          go_wp2_with (go_at_call 33; refine (addSimple_any HX.out HI6.out.tab HI6.out.row HI6.out.len hg0 HLR6.out HVJ.out HN6.out).mono ?_; intro e w7 hpp; obtain ⟨a7, rfl, hpp⟩ := pc_swap hpp; have HI7 := Lib.hid (HI6.out.step HX.out hpp); clear hpp)
          go_roundw
          case rel => exact ⟨j + 1, _, _, rfl, by first | rfl | exact congrArg (Value.int .i64) hwj, HI7.out, hjM, HCU.out, HLE.out⟩
          case measure => first | (rw [hwj]; exact meas_succ hjM) | exact meas_succ hjM
        · obtain rfl : j = M := Nat.le_antisymm hjM0 (Nat.not_lt.1 hjM)
          have hyn : ¬ (j : Int) < (j : Int) := Int.lt_irrefl _
          have hynb : decide ((j : Int) < (j : Int)) = false := decide_eq_false hyn
          have hwi := wrap_succ1 (Nat.le_trans hi8 (by decide))
          have HCU : Hid (cur ++ restP tx Pt cb (i + 1) = Tot) := by
           show _ = _
           have h := HCUR.out
           rw [← HSM.out, pcSms_end] at h
           rw [HR1.out]
           exact h
          have HLE := Lib.hid (ch_b4 HCL.out HS16.out)
          go_wp2
          go_roundw
          case rel => exact ⟨i + 1, _, _, rfl, by first | rfl | exact congrArg (Value.int .i64) hwi, HI.out, hlt, HCU.out, HLE.out⟩
          case measure => first | (rw [hwi]; exact meas_succ hlt) | exact meas_succ hlt
   · obtain rfl : i = N := Nat.le_antisymm hiN (Nat.not_lt.1 hlt)
     have hxn : ¬ (i : Int) < (i : Int) := Int.lt_irrefl _
     have hxnb : decide ((i : Int) < (i : Int)) = false := decide_eq_false hxn
     have HCU : Hid (cur = Tot) := by
      show _ = _
      have h := HCUR.out
      rw [← HN.out, restP_end, List.append_nil] at h
      exact h
     have d2 : wr.cell? ⟨w.heap.size, 2, none⟩ = some (.int .i64 pe) := (HI.out.box.cell 2).trans HX2.out
     cases hE : isElS pe
     · have HRE : Hid (R = cur) := by
        show _ = _
        rw [← HRR.out, hE, HCU.out]
        simp
       have HEL := Lib.hid (fun W => isEl_any pe W)
       rw [hE] at HEL
       clear hE
       go_wp2_with (go_at_call 34; refine (HEL.out _).mono ?_; rintro e w3 ⟨rfl, rfl⟩)
       go_ret
       rw [HRE.out]
       exact HI.out.fin
     · have HEL := Lib.hid (fun W => isEl_any pe W)
       rw [hE] at HEL
       obtain ⟨j, rfl, hj1, hj5⟩ := isEl_nat hE
       have y0 := HI.out.tab.elem j (Nat.lt_succ_of_le hj5)
       have hes := elW_size j (Nat.lt_succ_of_le hj5)
       obtain ⟨T1, hT1⟩ : ∃ x, elW (j : Int) = x := ⟨_, rfl⟩
       rw [hT1] at y0 hes HRR
       have ca := cat_ok ⟨#[58, 58]⟩ T1 (by show 2 + T1.size ≤ _; omega)
       obtain ⟨T, hT⟩ : ∃ T, (⟨#[58, 58]⟩ ++ T1 : ByteArray) = T := ⟨_, rfl⟩
       rw [hT] at ca HRR
       have HRE : Hid (R = cur ++ [(T, [])]) := by
        show _ = _
        rw [← HRR.out, hE, HCU.out]
        rfl
       have hq0 : (0 : Int) ≤ (j : Int) := Int.natCast_nonneg j
       have hq1 : (j : Int) < 6 := by omega
       have HB3 := Lib.hid HI.out.len
       have HN3 := Lib.hid (ch_b1 HCL.out hn hP)
       clear hE hT hT1 hes hj1 hj5
       go_wp2_with (first | (go_at_call 34; refine (HEL.out _).mono ?_; rintro e w3 ⟨rfl, rfl⟩) | (at_builtin; refine wpList_pc_one rfl _ _ rfl HI.out.row HB3.out HN3.out rfl rfl ?_; intro a5 w5 hpp; have HI5 := Lib.hid (HI.out.step HX.out hpp); clear hpp))
       go_ret
       rw [HRE.out]
       exact HI5.out.fin
section
variable (tx : Int → Int → ByteArray)
def restL (l : List CxD) (i : Nat) : List Pc := if i = 0 then pcLs tx l else pcRest tx (l.drop i)
theorem restL_end (l : List CxD) : restL tx l l.length = [] := by
 unfold restL
 cases l with
 | nil => rfl
 | cons c l =>
  rw [if_neg (by simp), List.drop_of_length_le (Nat.le_refl _)]
  rfl
theorem restL_zero {l : List CxD} (h : 0 < l.length) : restL tx l 0 = pcCx tx l[0] ++ restL tx l 1 := by
 cases l with
 | nil => simp at h
 | cons c l => rfl
theorem restL_succ {l : List CxD} {i : Nat} (h : i < l.length) (hi : 0 < i) : restL tx l i = (⟨#[44, 32]⟩, []) :: (pcCx tx l[i] ++ restL tx l (i + 1)) := by
 unfold restL
 rw [if_neg (by omega), if_neg (by simp), List.drop_eq_getElem_cons h]
 rfl
theorem pcSms_len : ∀ l : List SmD, (pcSms tx l).length ≤ 2 * l.length
  | [] => Nat.le_refl _
  | s :: l => by
   rw [pcSms, List.length_append, List.length_cons]
   have := pcSm_len tx s
   have := pcSms_len l
   omega
theorem pcCm_len {c : CmD} (h : okCm c) : (pcCm tx c).length ≤ 33 := by
 cases c with
 | mk t s =>
  rw [okCm] at h
  rw [pcCm, List.length_cons]
  have := pcSms_len tx s
  omega
theorem pcMore_len : ∀ (l : List CmD) (b : List ByteArray), okCms l → (pcMore tx l b).length ≤ 34 * l.length
  | [], _, _ => by rw [pcMore]; exact Nat.zero_le _
  | c :: l, [], h => by
   rw [okCms] at h
   rw [pcMore, List.length_append, List.length_cons]
   have := pcCm_len tx h.1
   have := pcMore_len l [] h.2
   omega
  | c :: l, b :: bs, h => by
   rw [okCms] at h
   rw [pcMore, List.length_cons, List.length_append, List.length_cons]
   have := pcCm_len tx h.1
   have := pcMore_len l bs h.2
   omega
theorem pcCx_len {c : CxD} (h : okCx c) : (pcCx tx c).length ≤ 300 := by
 cases c with
 | mk p cb ps =>
  rw [okCx] at h
  have h1 : (pcFirst tx p cb).length ≤ 34 * p.length := by
   obtain ⟨_, h2⟩ := h
   cases p with
   | nil => rw [pcFirst]; exact Nat.zero_le _
   | cons c l =>
    rw [okCms] at h2
    rw [pcFirst, List.length_append, List.length_cons]
    have := pcCm_len tx h2.1
    have := pcMore_len tx l cb h2.2
    omega
  rw [pcCx, List.length_append]
  have h3 : (if isElS ps = true then [((⟨#[58, 58]⟩ ++ elW ps : ByteArray), ([] : List CxD))] else []).length ≤ 1 := by split <;> simp
  have := h.1
  omega
end
theorem rdG.cxAt {w : World} {Q : Nat → Prop} {S : List CxD} {b off : Nat} (h : ∀ j (hj : j < S.length) i (hi : i < (CxD.dt S[j]).length), ∃ u, w.cell? ⟨b, off + j * 3 + i, none⟩ = some u ∧ rdG w Q (CxD.dt S[j])[i] u) (j : Nat) (hj : j < S.length) :
    ∃ Pt cb pe a1 c1 a2 c2, S[j] = .mk Pt cb pe ∧ w.cell? ⟨b, off + j * 3, none⟩ = some (.slice a1 Pt.length c1) ∧ w.cell? ⟨b, off + j * 3 + 1, none⟩ = some (.slice a2 cb.length c2) ∧ w.cell? ⟨b, off + j * 3 + 2, none⟩ = some (.int .i64 pe) ∧ rdG w Q (.sl 2 (cmsDt Pt)) (.slice a1 Pt.length c1) ∧ rdG w Q (.sl 1 (cbDt cb)) (.slice a2 cb.length c2) := by
  have h0 := h j hj
  generalize S[j] = s at *
  cases s with
  | mk Pt cb pe =>
   simp only [CxD.dt] at h0
   obtain ⟨u0, c0, r0⟩ := h0 0 (by simp)
   obtain ⟨u1, c1, r1⟩ := h0 1 (by simp)
   obtain ⟨u2, c2, r2⟩ := h0 2 (by simp)
   simp only [List.getElem_cons_zero, List.getElem_cons_succ] at r0 r1 r2
   obtain rfl := r2.leaf
   obtain ⟨a0, d0, rfl, _⟩ := r0.shape
   obtain ⟨a1, d1, rfl, _⟩ := r1.shape
   rw [cmsDt_len] at c0 r0
   rw [List.length_map] at c1 r1
   exact ⟨Pt, cb, pe, a0, d0, a1, d1, rfl, c0, c1, c2, r0, r1⟩
structure LiI (g0 B : Nat) (K : World → Prop) (w : World) (v : Value) (ps : List Pc) (wr : World) : Prop where
  row : PcW B wr v ps
  gw : w.grownBy wr none
  at' : ∀ q, v.ownBlock = some q → w.heap.size ≤ q
  tab : TabK g0 K wr
  base : g0 ≤ B ∧ B ≤ w.heap.size
section
variable {g0 B : Nat} {K : World → Prop} {tx : Int → Int → ByteArray} {w wr w' : World} {v v' : Value} {ps ps' : List Pc}
theorem LiI.below (hx : TxOk g0 K tx) (h : LiI g0 B K w v ps wr) (hb : Below wr.heap.size wr w') : LiI g0 B K w v ps w' :=
 ⟨h.row.below hb, gb_trans h.gw (gb_below hb _), h.at', h.tab.below hx hb, h.base⟩
theorem LiI.step (hx : TxOk g0 K tx) (h : LiI g0 B K w v ps wr) (hp : PcPost B wr v ps' (.returned v') w') : LiI g0 B K w v' ps' w' := by
 obtain ⟨v2, he, h1, h2, h3⟩ := hp
 injection he with he
 subst he
 have hgs := h.gw.size
 refine ⟨h1, gb_then h.gw h2 (fun j hj => .inl (h.at' j hj)), ?_, h.tab.grown hx h2 fun q hq => Nat.le_trans h.base.1 (Nat.le_trans h.base.2 (h.at' q hq)), h.base⟩
 rcases h3 with h3 | h3
 · rw [h3]
   exact h.at'
 · exact fun q hq => Nat.le_trans hgs (h3 q hq)
theorem LiI.keep (h : LiI g0 B K w v ps wr) : ∀ b, b < B → wr.heap[b]? = w.heap[b]? := fun b hb =>
 h.gw.block b (Nat.lt_of_lt_of_le hb h.base.2) (by simp)
theorem LiI.rd (h : LiI g0 B K w v ps wr) {d : Dt} {u : Value} (hr : rdG w (fun b => b < B) d u) : rdG wr (fun b => b < B) d u :=
 rdG.move (fun _ _ h => h) (fun b hb _ => h.keep b hb) h.gw.size _ _ hr
theorem pc_rd {W : World} {e : Ending} {d : Dt} {u : Value} (hr : rdG W (fun b => b < B) d u) (hp : PcPost B W v ps e w') (ho : PcW B W v ps') : rdG w' (fun b => b < B) d u := by
 obtain ⟨v2, he, h1, h2, h3⟩ := hp
 exact rdG.move (fun _ _ h => h) (fun b hb hl => h2.block b hl fun e => by have := (ho.lt b e.symm).1; omega) h2.size _ _ hr
theorem LiI.len (h : LiI g0 B K w v ps wr) : B ≤ wr.heap.size := Nat.le_trans h.base.2 h.gw.size
theorem LiI.fin (h : LiI g0 B K w v ps wr) : PcPost B w (.slice none 0 0) ps (.returned v) wr := ⟨v, rfl, h.row, h.gw, .inr h.at'⟩
end
theorem li_b1 {c i : Nat} (h : c ≤ 400 * i) (hi : i ≤ 16) : c ≤ 900000000 := by omega
theorem li_b2 {c i : Nat} (h : c ≤ 400 * i) (hi : i ≤ 16) : c + 1 ≤ 900000000 := by omega
theorem li_b3 {c d i : Nat} (h : c ≤ 400 * i) (hd : d ≤ 300) : c + d ≤ 400 * (i + 1) := by omega
theorem li_b4 {c d i : Nat} (h : c ≤ 400 * i) (hd : d ≤ 300) : c + 1 + d ≤ 400 * (i + 1) := by omega
theorem listed_any {g0 B : Nat} {K : World → Prop} {tx : Int → Int → ByteArray} {w : World} {lv : Value} {l : List CxD} (hx : TxOk g0 K tx) (ht : TabK g0 K w) (hB : B ≤ w.heap.size) (hg0 : g0 ≤ B) (hl : rdG w (fun b => b < B) (.sl 3 (cxsDt l)) lv) (hok : okLs l) (h16 : l.length ≤ 16) (hv : vLs l) :
    Calls Tryz.prog 23 #[lv] w (PcPost B w (.slice none 0 0) (pcLs tx l)) := by
  rw [cxsDt_map] at hl
  have HLR := Lib.hid hl
  obtain ⟨la, lc, rfl, _⟩ := hl.shape
  rw [List.length_map] at HLR
  rw [List.length_map]
  obtain ⟨N, hN⟩ : ∃ N, l.length = N := ⟨_, rfl⟩
  rw [hN] at h16 HLR ⊢
  have HN := Lib.hid hN
  have HOK := Lib.hid hok
  have HV := Lib.hid hv
  have HX := Lib.hid hx
  obtain ⟨Tot, hTot⟩ : ∃ T, pcLs tx l = T := ⟨_, rfl⟩
  have HTOT : Hid ([] ++ restL tx l 0 = Tot) := hTot
  rw [hTot]
  have HI1 : Hid (LiI g0 B K w (.slice none 0 0) [] w) := ⟨PcW.nil _ _, gb_below (Below.refl _ _) _, (fun q hq => by cases hq), ht, hg0, hB⟩
  clear hl hN hok hv hx hTot ht
  go_enter Tryz.func23, Tryz.ntmps23
  go_wp2
  go_loopw [3, 8] (fun av iv wr => ∃ (i : Nat) (a0 : Value) (cur : List Pc), a0 = av ∧ iv = .int .i64 i ∧ LiI g0 B K w a0 cur wr ∧ i ≤ N ∧ cur ++ restL tx l i = Tot ∧ cur.length ≤ 400 * i) (fun _ iv _ => N - (intOf iv).toNat)
  case atStart => exact ⟨0, _, _, rfl, rfl, HI1.out, Nat.zero_le _, HTOT.out, Nat.zero_le _⟩
  case round =>
   obtain ⟨i, av, cur, rfl, rfl, hI, hiN, hcur, hcl⟩ := hrel
   clear HI1 HTOT
   have HI := Lib.hid hI
   have HCUR := Lib.hid hcur
   have HCL := Lib.hid hcl
   clear hI hcur hcl
   by_cases hlt : i < N
   · have hiP : i < l.length := by rw [HN.out]; exact hlt
     obtain ⟨b, off, c, hv, hbB, hbl, hrow⟩ := HLR.out.rowAt (Nat.lt_of_le_of_lt (Nat.zero_le _) hiP)
     rw [HN.out] at hv
     injection hv with e1 _ e3
     subst e1 e3
     obtain ⟨Pt, cb, pe, a1, c1, a2, c2, hPi, p0, p1, p2, r1, r2⟩ := rdG.cxAt hrow i hiP
     have hoc := okLs_mem _ HOK.out _ (List.getElem_mem hiP)
     have hvc := vLs_mem HV.out _ (List.getElem_mem hiP)
     rw [hPi] at hoc hvc
     have HOC := Lib.hid hoc
     have HVC := Lib.hid hvc
     replace p0 : wr.cell? ⟨b, off + i * 3, none⟩ = _ := (World.cell?_of_block (a := ⟨b, off + i * 3, none⟩) (HI.out.keep b hbB)).trans p0
     replace p1 : wr.cell? ⟨b, off + i * 3 + 1, none⟩ = _ := (World.cell?_of_block (a := ⟨b, off + i * 3 + 1, none⟩) (HI.out.keep b hbB)).trans p1
     replace p2 : wr.cell? ⟨b, off + i * 3 + 2, none⟩ = _ := (World.cell?_of_block (a := ⟨b, off + i * 3 + 2, none⟩) (HI.out.keep b hbB)).trans p2
     have HR1 := Lib.hid (HI.out.rd r1)
     have HR2 := Lib.hid (HI.out.rd r2)
     obtain ⟨m1, hm1⟩ : ∃ m, Pt.length = m := ⟨_, rfl⟩
     obtain ⟨m2, hm2⟩ : ∃ m, cb.length = m := ⟨_, rfl⟩
     rw [hm1] at p0 HR1
     rw [hm2] at p1 HR2
     have hi16 : i ≤ 16 := Nat.le_of_lt (Nat.lt_of_lt_of_le hlt h16)
     have hx0 : (0 : Int) ≤ (i : Int) := Int.natCast_nonneg i
     have hx1 : (i : Int) < (N : Int) := Int.ofNat_lt.2 hlt
     have hx1b : decide ((i : Int) < (N : Int)) = true := decide_eq_true hx1
     have hwi := wrap_succ1 (Nat.le_trans hi16 (by decide))
     have HI3 := Lib.hid (HI.out.below HX.out (bel_newS wr (.cells (cxC (.slice a1 m1 c1) (.slice a2 m2 c2) pe) 35)))
     have HP3 := Lib.hid (CB.new (T := 35) wr (cxC (.slice a1 m1 c1) (.slice a2 m2 c2) pe))
     have HGP : Hid (∀ q, av.ownBlock = some q → q ≠ wr.heap.size) := fun q hq => Nat.ne_of_lt (HI.out.row.lt q hq).2
     have HPL := Lib.hid (pcCx_len tx hoc)
     by_cases h0 : 0 < i
     · have h0I : (0 : Int) < (i : Int) := Int.ofNat_lt.2 h0
       have HCU : Hid (cur ++ [(⟨#[44, 32]⟩, [])] ++ pcCx tx (.mk Pt cb pe) ++ restL tx l (i + 1) = Tot) := by
        show _ = _
        rw [← HCUR.out, restL_succ tx hiP h0, hPi]
        simp only [List.append_assoc]
        rfl
       have HK3 := Lib.hid (HR1.out.under (bel_newS wr (.cells (cxC (.slice a1 m1 c1) (.slice a2 m2 c2) pe) 35)) (Nat.le_refl _))
       have HK4 := Lib.hid (HR2.out.under (bel_newS wr (.cells (cxC (.slice a1 m1 c1) (.slice a2 m2 c2) pe) 35)) (Nat.le_refl _))
       have HB3 := Lib.hid HI3.out.len
       have HN3 := Lib.hid (Nat.le_trans (Nat.le_of_succ_le (li_b2 HCL.out hi16)) (by decide : 900000000 ≤ 1000000000))
       have HN4 : Hid ((cur ++ [((⟨#[44, 32]⟩ : ByteArray), ([] : List CxD))]).length ≤ 900000000) := by show _ ≤ _; rw [List.length_append]; exact li_b2 HCL.out hi16
       have HLE : Hid ((cur ++ [((⟨#[44, 32]⟩ : ByteArray), ([] : List CxD))] ++ pcCx tx (.mk Pt cb pe)).length ≤ 400 * (i + 1)) := by
        show _ ≤ _
        rw [List.length_append, List.length_append]
        exact li_b4 HCL.out HPL.out
       clear hrow hPi hoc hvc r1 r2 hm1 hm2 HCUR
       go_upto_region 6 with fail
       generalize wr.alloc (.cells _ 35) = W3 at *
       generalize wr.heap.size = gp at *
       go_upto_region 7 with (at_builtin; refine wpList_pc_one rfl _ _ rfl HI3.out.row HB3.out HN3.out rfl rfl ?_; intro a5 w5 hpp; have HI5 := Lib.hid (HI3.out.step HX.out hpp); have HP5 := Lib.hid (pc_other HP3.out HGP.out hpp); have HK5 := Lib.hid (pc_rd HK3.out hpp HI3.out.row); have HK6 := Lib.hid (pc_rd HK4.out hpp HI3.out.row); clear hpp)
       have z0 : w5.cell? ⟨gp, 0, none⟩ = some (.slice a1 m1 c1) := HP5.out.cell 0
       have z1 : w5.cell? ⟨gp, 1, none⟩ = some (.slice a2 m2 c2) := HP5.out.cell 1
       have z2 : w5.cell? ⟨gp, 2, none⟩ = some (.int .i64 pe) := HP5.out.cell 2
       go_wp2_with (go_at_call 21; refine (addChain_any HX.out HI5.out.tab HI5.out.row HI5.out.len hg0 HK5.out HK6.out HOC.out HVC.out HN4.out).mono ?_; intro e w7 hpp; obtain ⟨a7, rfl, hpp⟩ := pc_swap hpp; have HI7 := Lib.hid (HI5.out.step HX.out hpp); clear hpp)
       go_roundw
       case rel => exact ⟨i + 1, _, _, rfl, by first | rfl | exact congrArg (Value.int .i64) hwi, HI7.out, hlt, HCU.out, HLE.out⟩
       case measure => first | (rw [hwi]; exact meas_succ hlt) | exact meas_succ hlt
     · obtain rfl : i = 0 := Nat.eq_zero_of_not_pos h0
       simp only [Nat.zero_mul, Nat.add_zero] at p0 p1 p2
       have HCU : Hid (cur ++ pcCx tx (.mk Pt cb pe) ++ restL tx l 1 = Tot) := by
        show _ = _
        rw [← HCUR.out, restL_zero tx hiP, hPi]
        simp only [List.append_assoc]
       have HN4 := Lib.hid (li_b1 HCL.out (Nat.zero_le _))
       have HLE : Hid ((cur ++ pcCx tx (.mk Pt cb pe)).length ≤ 400 * (0 + 1)) := by
        show _ ≤ _
        rw [List.length_append]
        exact li_b3 HCL.out HPL.out
       have HK5 := Lib.hid (HR1.out.under (bel_newS wr (.cells (cxC (.slice a1 m1 c1) (.slice a2 m2 c2) pe) 35)) (Nat.le_refl _))
       have HK6 := Lib.hid (HR2.out.under (bel_newS wr (.cells (cxC (.slice a1 m1 c1) (.slice a2 m2 c2) pe) 35)) (Nat.le_refl _))
       clear hrow hPi hoc hvc r1 r2 hm1 hm2 HCUR h0 hwi hx0
       go_upto_region 7 with fail
       generalize wr.alloc (.cells _ 35) = W3 at *
       generalize wr.heap.size = gp at *
       have z0 : W3.cell? ⟨gp, 0, none⟩ = some (.slice a1 m1 c1) := HP3.out.cell 0
       have z1 : W3.cell? ⟨gp, 1, none⟩ = some (.slice a2 m2 c2) := HP3.out.cell 1
       have z2 : W3.cell? ⟨gp, 2, none⟩ = some (.int .i64 pe) := HP3.out.cell 2
       go_wp2_with (go_at_call 21; refine (addChain_any HX.out HI3.out.tab HI3.out.row HI3.out.len hg0 HK5.out HK6.out HOC.out HVC.out HN4.out).mono ?_; intro e w7 hpp; obtain ⟨a7, rfl, hpp⟩ := pc_swap hpp; have HI7 := Lib.hid (HI3.out.step HX.out hpp); clear hpp)
       go_roundw
       case rel => exact ⟨1, _, _, rfl, rfl, HI7.out, hlt, HCU.out, HLE.out⟩
       case measure => exact meas_succ hlt
   · obtain rfl : i = N := Nat.le_antisymm hiN (Nat.not_lt.1 hlt)
     have hxn : ¬ (i : Int) < (i : Int) := Int.lt_irrefl _
     have hxnb : decide ((i : Int) < (i : Int)) = false := decide_eq_false hxn
     have HCU : Hid (cur = Tot) := by
      show _ = _
      have h := HCUR.out
      rw [← HN.out, restL_end, List.append_nil] at h
      exact h
     go_wp2
     go_ret
     rw [← HCU.out]
     exact HI.out.fin
end Go.Proofs.YtclicjiakkcfcaaGreatDoor
