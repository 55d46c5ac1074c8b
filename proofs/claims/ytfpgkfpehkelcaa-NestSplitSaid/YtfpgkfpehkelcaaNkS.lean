
import Derived.Test.YtfpgkfpehkelcaaNsG
import Derived.Test.YtfpgkfpehkelcaaNsP
import Derived.Maps.AppendAt
import Derived.Laws.AppendOwnNone
namespace Go.Proofs.Ytfpgkfpehkelcaa
open Go.RowKit
theorem toksS_size (s : ByteArray) : (toks (readS s)).length ≤ s.size := Nat.le_trans (toks_len_le _ _ (Nat.le_refl _)) (readS_length s)
theorem joinC_snoc (c : Nd) : ∀ (ps : List (List Nd)) (p : List Nd), joinC c (ps ++ [p]) = if ps = [] then p else joinC c ps ++ c :: p
  | [], p => rfl
  | [q], p => rfl
  | q :: r :: ps, p => by
    rw [if_neg (by simp)]
    show q ++ c :: joinC c (r :: ps ++ [p]) = (q ++ c :: joinC c (r :: ps)) ++ c :: p
    rw [joinC_snoc c (r :: ps) p, if_neg (by simp), List.append_assoc]; rfl
theorem joinC_le (c : Nd) : ∀ (ps : List (List Nd)) (k : Nat), (joinC c (ps.take k)).length ≤ (joinC c ps).length
  | [], k => by simp
  | [p], 0 => by simp [joinC]
  | [p], k + 1 => by simp
  | p :: q :: ps, 0 => by simp [joinC]
  | p :: q :: ps, 1 => by simp [joinC]
  | p :: q :: ps, k + 2 => by
    have := joinC_le c (q :: ps) (k + 1)
    rw [List.take_succ_cons, List.take_succ_cons]
    rw [List.take_succ_cons] at this
    simp only [joinC, List.length_append, List.length_cons]; omega
theorem joinC_step (c : Nd) (ps : List (List Nd)) (i : Nat) (h : i < ps.length) : joinC c (ps.take (i + 1)) = (if i = 0 then [] else joinC c (ps.take i) ++ [c]) ++ ps[i] := by
  rw [List.take_succ_eq_append_getElem h, joinC_snoc]
  by_cases h0 : i = 0
  · subst h0; simp
  · rw [if_neg h0, if_neg (by intro e; have := congrArg List.length e; rw [List.length_take, List.length_nil] at this; omega), List.append_assoc]; rfl
theorem cmN_snoc (L : List Nd) (i : Nat) (h : i < L.length) : cmN (L.take (i + 1)) = cmN (L.take i) + if isCm L[i] then 1 else 0 := by
  unfold cmN
  rw [List.take_succ_eq_append_getElem h, List.filter_append, List.length_append]
  by_cases hc : isCm L[i] = true
  · rw [if_pos hc]; simp [hc]
  · rw [if_neg hc]; simp [hc]
theorem flN_one {w : World} {P : Nat → Prop} {l : List Nd} : ∀ gs : List Fl, FlN w P gs l → ∀ u ∈ gs.flatMap ncells, u.oneCell' = true := by
  intro gs h
  induction h with
  | nil => intro u hu; simp at hu
  | cons t u k fs l h1 _ ih =>
    intro x hx
    obtain ⟨a, c, rfl, _⟩ := h1.shape
    rw [List.flatMap_cons, List.mem_append] at hx
    rcases hx with hx | hx
    · exact ncells_one _ rfl x hx
    · exact ih x hx
theorem run_none0 {P : Program} {w : World} (base : Nat) (t ty e : TypeId) (i : TypeInfo) (size c : Nat) (ht : P.underlying t = some (.slice e)) (hi : P.info? e = some i)
    (v : Value) (n : Nat) (xs : List Value) (hown : w.ownsRow base e size v n xs) : (Builtin.append_ #[t, t] ty #[v, .slice none 0 c]).run P w = .ok v w := by
  rcases hown.2 with ⟨rfl, rfl⟩ | ⟨g, cap, cur, rfl, _, _, hnc, _⟩
  · simp [Builtin.append_, run_underlying ht, sizeOf, typeInfo, hi, Builtin.lenOf, Builtin.firstCells]
  · simp [Builtin.append_, run_underlying ht, sizeOf, typeInfo, hi, Builtin.lenOf, Builtin.firstCells, hnc, storeCells]
theorem append_none0 {P : Program} {w : World} {ops : Array Oper} {rest : List Oper} {o : Oper} {a : Act} {Q : Exit → Act → World → Prop} (hgd : o.guard = none) (s x : Operand) (t : TypeId)
    (ho : o.op = .call { callee := .builtin .append, args := #[s, x], argTypes := #[t, t] })
    (base : Nat) (e : TypeId) (i : TypeInfo) (size c : Nat) (ht : P.underlying t = some (.slice e)) (hi : P.info? e = some i)
    (v : Value) (n : Nat) (xs : List Value) (hs : a.eval s = v) (hown : w.ownsRow base e size v n xs) (hx : a.eval x = .slice none 0 c)
    (h : wpList P ops Q rest (a.put o.dst v) w) : wpList P ops Q (o :: rest) a w := by
  refine wpList_plain hgd fun K hK => ?_
  have hrun := run_none0 (P := P) (w := w) base t o.type e i size c ht hi v n xs hown
  unfold Oper.wp
  simp [execOp, ho, resolve, invoke, builtin, hs, hx, hrun, Result.andThen]
  exact hK _ _ h
theorem cmN_le (L : List Nd) : cmN L ≤ L.length := List.length_filter_le _ _
theorem FlN.cat {w : World} {P : Nat → Prop} {fs gs : List Fl} {l k : List Nd} (h : FlN w P fs l) (hk : FlN w P gs k) : FlN w P (fs ++ gs) (l ++ k) := by
  induction h with
  | nil => exact hk
  | cons t u k' fs l h1 _ ih => exact .cons t u k' _ _ h1 ih
/-- Nodes appended. -/
theorem RowN.cat {Q : Nat → Prop} {B : Nat} {W w1 : World} {v v' : Value} {l k : List Nd} {fs gs : List Fl} (h2 : FlN W (fun b => Q b ∧ v.ownBlock ≠ some b) fs l) (hk : FlN W (fun b => Q b ∧ v.ownBlock ≠ some b) gs k)
    (hown : w1.ownsRow B 35 7 v' (fs.length + gs.length) (fs.flatMap ncells ++ gs.flatMap ncells)) (hgrow : W.grownBy w1 v.ownBlock) (hat : v'.ownBlock = v.ownBlock ∨ v'.ownBlock = some W.heap.size) : RowN Q B w1 v' (l ++ k) := by
  refine ⟨fs ++ gs, ?_, ?_⟩
  · unfold RowF
    rw [List.length_append, List.flatMap_append]
    exact hown
  · have hw : ∀ {xs : List Fl} {l : List Nd}, FlN W (fun b => Q b ∧ v.ownBlock ≠ some b) xs l → FlN w1 (fun b => Q b ∧ v'.ownBlock ≠ some b) xs l := fun {xs l} h =>
      ((h.weak (Q := fun b => (Q b ∧ v.ownBlock ≠ some b) ∧ b < W.heap.size) fun b hl hb => ⟨hb, hl⟩).move (fun b hb _ => hgrow.block b hb.2 fun e => hb.1.2 e.symm) hgrow.size).weak fun b _ hb => ⟨hb.1.1, fun e => by
        rcases hat with hat | hat
        · rw [hat] at e; exact hb.1.2 e
        · rw [hat] at e; injection e with e; omega⟩
    exact (hw h2).cat (hw hk)
set_option maxRecDepth 100000 in
set_option maxHeartbeats 1600000 in
theorem nsplit_many (s : ByteArray) (w : World) (h : (500 : Int) < (s.size : Int)) :
    Calls Try.prog 6 #[.string s] w fun e w' => e = .returned (.bool true) ∧ Below w.heap.size w w' := by
  go_enter Try.func6, Try.ntmps6
  go_wp2_with (go_at_call 10; (with_reducible refine (awake3_any _).mono ?_); rintro e w2 ⟨rfl, hb2⟩)
  go_ret
  exact ⟨rfl, hb2⟩
def SplB (w0 wS : World) (ps : List (List Nd)) (i : Nat) (wr : World) (bv : Value) : Prop := RowN (fun b => b < wS.heap.size) wS.heap.size wr bv (joinC (.mk { kind := 18 } []) (ps.take i)) ∧ Below wS.heap.size wS wr ∧ Below w0.heap.size w0 wS ∧ (i = 0 → bv = .slice none 0 0)
set_option maxRecDepth 100000 in
set_option maxHeartbeats 6400000 in
theorem nsplit_main (s : ByteArray) (w : World) (hs : s.size ≤ 500) :
    Calls Try.prog 6 #[.string s] w fun e w' => e = .returned (.bool true) ∧ Below w.heap.size w w' := by
  obtain ⟨i0, hi, hz0, hz1, hz2⟩ := info_parts info_node
  have h1 : ¬ (500 : Int) < (s.size : Int) := by omega
  have htl := toksS_size s
  have hsl := szL_nds _ (toks (readS s)) (Nat.le_refl _)
  have HJ := Lib.hid (nds_join (readS s))
  go_enter Try.func6, Try.ntmps6
  go_wp2_with fail
  refine (all3_any s w (by omega)).mono ?_
  rintro e w1 ⟨v1, rfl, hr1, hb1⟩
  go_wp2_with fail
  refine (nall_any w1 _ v1 hr1 (by omega)).mono ?_
  rintro e w2 ⟨⟨lv, rfl, hl⟩, hb2⟩
  generalize toks (readS s) = ts at *
  generalize ndsS ts = L at *
  have hll := szL_ge L
  obtain ⟨la, lc, hlv, hlc⟩ := hl.shape
  obtain ⟨N, hN⟩ : ∃ N, L.length = N := ⟨_, rfl⟩
  rw [hN] at hlv hlc hll
  subst hlv
  have HL2 := Lib.hid hl
  have HB2 := Lib.hid (below_seq hb1 hb2)
  have HNN := Lib.hid hN
  clear hl hb1 hb2 hr1 hN
  go_wp2_with fail
  refine (split_any HL2.out (by omega)).mono ?_
  rintro e w3 ⟨⟨pv, ks, rfl, hls, hks⟩, hb3⟩
  obtain ⟨pa, pc, hpv, hpc⟩ := hls.sl
  obtain ⟨M, hM⟩ : ∃ M, ks.length = M := ⟨_, rfl⟩
  have hMN : M = cmN L + 1 := by rw [← hM, ← splS_len L, ← hks, List.length_map]
  have hcmN := cmN_le L
  rw [HNN.out] at hcmN
  rw [hM] at hpv hpc
  have hpg : ∃ pg, pa = some ⟨pg, 0, none⟩ ∧ pg < w3.heap.size := by
    have hr := hls.row
    rcases hr.2 with ⟨h1, h0⟩ | ⟨g, cap, cur, hv, _⟩
    · omega
    · have hlt := (World.ownsRow.lt hr g (by rw [hv]; rfl)).2
      rw [hpv] at hv
      injection hv with e1 _ _
      exact ⟨g, e1, hlt⟩
  obtain ⟨pg, rfl, hpgl⟩ := hpg
  subst hpv
  have HMM := Lib.hid hM
  have HKS := Lib.hid hks
  have HLS := Lib.hid hls
  have HCM := Lib.hid hMN
  have HL3 := Lib.hid (HL2.out.under hb3 (Nat.le_refl _))
  have HB3 := Lib.hid (below_seq HB2.out hb3)
  have hMb : M ≤ 1000 := by omega
  clear hls hks hb3 hM hMN
  go_wp2
  go_loop [5, 6] (fun nv iv => ∃ i : Nat, nv = .int .i64 ((1 + cmN (L.take i) : Nat) : Int) ∧ iv = .int .i64 i ∧ i ≤ N) (fun _ iv => N - (intOf iv).toNat)
  case atStart => exact ⟨0, by simp [cmN], rfl, Nat.zero_le _⟩
  case round =>
    obtain ⟨i, rfl, rfl, hiN⟩ := hrel
    by_cases hlt : i < N
    · obtain ⟨lb, loff, lc2, hlv2, _, _, hlb, g1⟩ := HL3.out.base (by rw [HNN.out]; omega)
      rw [HNN.out] at hlv2
      injection hlv2 with e1 _ e3
      subst e1 e3
      obtain ⟨u, hat, hku⟩ := g1 i (by rw [HNN.out]; exact hlt)
      clear g1
      have c0 := hat.c0
      have hx0 : (0 : Int) ≤ (i : Int) := by omega
      have hx1 : (i : Int) < (N : Int) := by omega
      have HSN := Lib.hid (cmN_snoc L i (by rw [HNN.out]; exact hlt))
      have HWK := Lib.hid (show isCm (L[i]'(by rw [HNN.out]; exact hlt)) = ((L[i]'(by rw [HNN.out]; exact hlt)).tok.kind == 18) from rfl)
      have hcl := cmN_le (L.take i)
      rw [List.length_take] at hcl
      have hcl2 : cmN (L.take i) ≤ 1000 := by omega
      clear hat hku hcl
      generalize (L[i]'(by rw [HNN.out]; exact hlt)).tok = tk at *
      obtain ⟨cq, hcq⟩ : ∃ cq, cmN (L.take i) = cq := ⟨_, rfl⟩
      have HCQ := Lib.hid hcq
      rw [hcq] at hcl2
      rw [hcq]
      clear hcq
      by_cases hw : (tk.kind == 18) = true
      · go_wp2
        go_round
        case rel => exact ⟨i + 1, by rw [HSN.out, HWK.out, if_pos hw, HCQ.out]; go_num, by go_num, by omega⟩
        case measure => simp [intOf]; omega
      · have hw : (tk.kind == 18) = false := by simpa using hw
        go_wp2
        go_round
        case rel => exact ⟨i + 1, by rw [HSN.out, HWK.out, if_neg (by rw [hw]; decide), HCQ.out]; rfl, by go_num, by omega⟩
        case measure => simp [intOf]; omega
    · have hiN2 : N = i := by omega
      subst hiN2
      have hcq : 1 + cmN (L.take N) = M := by rw [List.take_of_length_le (by rw [HNN.out]; omega), HCM.out]; omega
      rw [hcq]
      clear hcq
      go_wp2
      go_loopw [7, 8] (fun bv iv wr => ∃ i : Nat, iv = .int .i64 i ∧ i ≤ M ∧ SplB w w3 (ks.map Prod.snd) i wr bv) (fun _ iv _ => M - (intOf iv).toNat)
      case atStart => exact ⟨0, rfl, Nat.zero_le _, RowN.nil _ _ _, Below.refl _ _, HB3.out, fun _ => rfl⟩
      case round =>
        obtain ⟨i, rfl, hiM, hI⟩ := hrel
        obtain ⟨ba, bc, hbv⟩ := hI.1.sl
        have hjl : (joinC (.mk { kind := 18 } []) ((ks.map Prod.snd).take i)).length ≤ N := by
          have h := joinC_le (.mk { kind := 18 } []) (ks.map Prod.snd) i
          rw [HKS.out, HJ.out, HNN.out] at h
          rw [HKS.out]
          exact h
        have HI := Lib.hid hI
        clear hI
        by_cases hlt : i < M
        · have hjl2 : (joinC (.mk { kind := 18 } []) ((ks.map Prod.snd).take (i + 1))).length ≤ N := by
            have h := joinC_le (.mk { kind := 18 } []) (ks.map Prod.snd) (i + 1)
            rw [HKS.out, HJ.out, HNN.out] at h
            rw [HKS.out]
            exact h
          have hst := joinC_step (.mk { kind := 18 } []) (ks.map Prod.snd) i (by rw [List.length_map, HMM.out]; exact hlt)
          rw [List.getElem_map] at hst
          have hmem : ks[i]'(by rw [HMM.out]; exact hlt) ∈ ks := List.getElem_mem _
          have hrdx := HLS.out.rd _ hmem
          have hcx : w3.cell? ⟨pg, i, none⟩ = some (ks[i]'(by rw [HMM.out]; exact hlt)).1 := by
            have h1 := HLS.out.row
            rw [HMM.out] at h1
            have h2 := h1.cellAt i (by omega)
            rw [List.getElem?_map, List.getElem?_eq_getElem (by rw [HMM.out]; exact hlt)] at h2
            exact h2
          generalize (ks[i]'(by rw [HMM.out]; exact hlt)) = x at *
          obtain ⟨xv, xk⟩ := x
          simp only at hrdx hcx hst
          have hrd2 : RdN w3 (fun b => b < w3.heap.size) xv xk := hrdx.weak (Q := fun b => b < w3.heap.size) fun b hl _ => hl
          obtain ⟨xa, xc, hxs, hxl⟩ := hrd2.shape
          subst hxs
          have HX3 := Lib.hid hrd2
          clear hrdx hmem hrd2
          have hi0' : (0 : Int) ≤ (i : Int) := by omega
          have hi1' : (i : Int) < (M : Int) := by omega
          by_cases h0 : 0 < i
          · have hpos : (0 : Int) < (i : Int) := by omega
            rw [if_neg (show ¬ i = 0 by omega)] at hst
            have hRA := HI.out.1.below ((Below.refl wr.heap.size wr).alloc (Nat.le_refl _) (.cells #[.int .i64 18, .string ⟨#[]⟩, .int .i64 0, .bool false, .bool false, .bool false, .slice none 0 0] 35))
            obtain ⟨bn, hbn⟩ : ∃ bn, (joinC (.mk { kind := 18 } []) ((ks.map Prod.snd).take i)).length = bn := ⟨_, rfl⟩
            rw [hbn] at hbv hjl
            subst hbv
            have hjl3 : bn + 1 + xk.length ≤ N := by rw [hst, List.length_append, List.length_append, hbn] at hjl2; simpa using hjl2
            have HJ1 := Lib.hid (show (joinC (.mk { kind := 18 } []) ((ks.map Prod.snd).take i) ++ [.mk { kind := 18 } []]) ++ xk = joinC (.mk { kind := 18 } []) ((ks.map Prod.snd).take (i + 1)) from hst.symm)
            clear hst hjl2
            obtain ⟨fs0, hf1, hf2⟩ := hRA
            have hfl : fs0.length = bn := hf2.len.trans hbn
            have HF1 := Lib.hid hf1
            have HF2 := Lib.hid hf2
            have HBN := Lib.hid hbn
            unfold RowF at hf1
            rw [hfl] at hf1
            have HFL := Lib.hid hfl
            have hw3r : w3.heap.size ≤ wr.heap.size := HI.out.2.1.size
            have hobr := HI.out.1.block
            have hAl := (Below.refl wr.heap.size wr).alloc (Nat.le_refl _) (.cells #[.int .i64 18, .string ⟨#[]⟩, .int .i64 0, .bool false, .bool false, .bool false, .slice none 0 0] 35)
            clear hf2 hbn hfl
            go_upto_region 17 with (at_builtin; refine wpList_append_lies _ rfl _ _ 32 rfl w3.heap.size 35 i0 (.agg #[.int .i64 0, .string ⟨#[]⟩, .int .i64 0, .bool false, .bool false, .bool false, .slice none 0 0]) 7 64 Try.underlying32 hi hz0 hz1 hz2 rfl (by decide) _ bn (fs0.flatMap ncells) rfl hf1 ⟨_, 0, none⟩ 1 1 (ncells ({ kind := 18 }, .slice none 0 0)) rfl rfl (cell_seven_new _ _ _ _) (ncells_one _ rfl) (by decide) (by unfold maxLen; omega) (by omega) (by simp; omega) _ rfl ?_; intro g5 cap5 w5 hown5 hgrow5 hat5 hlt5)
            have HR := Lib.hid (RowN.push HF1.out HF2.out HFL.out hown5 hgrow5 hat5 (RdN.nil none 0))
            have HSZ := Lib.hid hgrow5.size
            have BW := Lib.hid (show Below w3.heap.size w3 w5 from (HI.out.2.1.trans (hAl.mono hw3r)).trans ⟨hgrow5.os, hgrow5.tape, hgrow5.output, hgrow5.size, fun k hk => hgrow5.block k (by have := hAl.size; omega) fun e => by have := (hobr k e.symm).1; omega⟩)
            obtain ⟨J1, hJ1⟩ : ∃ J1, joinC (.mk { kind := 18 } []) ((ks.map Prod.snd).take i) ++ [Nd.mk { kind := 18 } []] = J1 := ⟨_, rfl⟩
            have HJN := Lib.hid (show J1.length = bn + 1 by rw [← hJ1, List.length_append, HBN.out]; rfl)
            rw [hJ1] at HR HJ1
            clear hJ1 hown5 hgrow5 hat5 hf1
            obtain ⟨n1, hn1⟩ : ∃ n1, bn + 1 = n1 := ⟨_, rfl⟩
            rw [hn1] at HR HJN hjl3
            have hcast : ((bn : Int) + 1) = ((n1 : Nat) : Int) := by omega
            try rw [hn1]
            have HX := Lib.hid (show RdN w5 (fun b => b < w3.heap.size ∧ (Value.slice (some ⟨g5, 0, none⟩) n1 cap5).ownBlock ≠ some b) _ xk from (HX3.out.under BW.out (Nat.le_refl _)).weak fun b _ hb => ⟨hb, fun e => by have := (HR.out.block b e).1; omega⟩)
            have hcx5 := (BW.out.cell (p := ⟨pg, i, none⟩) hpgl).trans hcx
            clear hcx
            obtain ⟨fs, hf1, hf2⟩ := HR.out
            have hfl : fs.length = J1.length := hf2.len
            have hob := HR.out.block
            unfold RowF at hf1
            rw [hfl, HJN.out] at hf1
            have hfc : (fs.flatMap ncells).length = n1 * 7 := by rw [ncellsL_len, hfl, HJN.out]
            have HF2 := Lib.hid hf2
            have HFL := Lib.hid hfl
            have HFC := Lib.hid hfc
            clear hf2 hfl hfc
            by_cases hxn : 0 < xk.length
            · obtain ⟨xb, xo, xc2, hxe, _, hxB, hxlt, _⟩ := HX.out.base hxn
              obtain ⟨gs, hg1, hg2⟩ := HX.out.flat
              have hgl : gs.length = xk.length := hg1.len
              have hgc : (gs.flatMap ncells).length = xk.length * 7 := by rw [ncellsL_len, hgl]
              have hnews : ∀ j u, (gs.flatMap ncells)[j]? = some u → w5.cell? ((⟨xb, xo, none⟩ : Addr).add j) = some u := fun j u hu => by rw [Addr.add_lit]; exact hg2 xb xo _ _ hxe j u hu
              injection hxe with e1 _ e3
              subst e1 e3
              have hone := flN_one gs hg1
              have HG1 := Lib.hid hg1
              have HGL := Lib.hid hgl
              have HNW := Lib.hid hnews
              have hM1 : n1 + xk.length ≤ maxLen := by unfold maxLen; omega
              have hM2 : (n1 + xk.length) * 64 ≤ 140737488355328 := by omega
              have HM1 := Lib.hid hM1
              have HM2 := Lib.hid hM2
              clear hg1 hg2 hgl hnews hM1 hM2
              go_wp2_with (at_builtin; refine wpList_append_own_at _ rfl _ _ 32 rfl w3.heap.size 35 i0 (.agg #[.int .i64 0, .string ⟨#[]⟩, .int .i64 0, .bool false, .bool false, .bool false, .slice none 0 0]) 7 64 Try.underlying32 hi hz0 hz1 hz2 rfl (by decide) (.slice (some ⟨g5, 0, none⟩) n1 cap5) n1 (fs.flatMap ncells) rfl hf1 ⟨xb, xo, none⟩ xk.length _ (gs.flatMap ncells) rfl hgc HNW.out hone HM1.out HM2.out BW.out.size ?_; intro v6 w6 ho6 hg6 hn6 hat6)
              go_roundw
              case rel =>
                refine ⟨i + 1, by go_num, by omega, ?_, ?_, HB3.out, fun e => absurd e (by omega)⟩
                · rw [← HJ1.out]
                  exact RowN.cat HF2.out HG1.out (by rw [HFL.out, HGL.out, HJN.out]; exact ho6) hg6 hat6
                · exact BW.out.trans ⟨hg6.os, hg6.tape, hg6.output, hg6.size, fun k hk => hg6.block k (Nat.lt_of_lt_of_le hk BW.out.size) fun e => by have := (hob k e.symm).1; omega⟩
              case measure => simp [intOf]; omega
            · have hxk : xk = [] := List.eq_nil_of_length_eq_zero (by omega)
              subst hxk
              have hx0 : ([] : List Nd).length = 0 := rfl
              rw [hx0] at *
              have HM1 := Lib.hid (show n1 + 0 ≤ maxLen by unfold maxLen; omega)
              have HM2 := Lib.hid (show (n1 + 0) * 64 ≤ 140737488355328 by omega)
              cases xa with
              | none =>
                go_wp2_with (at_builtin; refine append_none0 rfl _ _ 32 rfl w3.heap.size 35 i0 7 _ Try.underlying32 hi _ n1 (fs.flatMap ncells) rfl hf1 rfl ?_)
                go_roundw
                case rel => exact ⟨i + 1, by go_num, by omega, by rw [← HJ1.out, List.append_nil]; exact HR.out, BW.out, HB3.out, fun e => absurd e (by omega)⟩
                case measure => simp [intOf]; omega
              | some ad =>
                go_wp2_with (at_builtin; refine wpList_append_own_at _ rfl _ _ 32 rfl w3.heap.size 35 i0 (.agg #[.int .i64 0, .string ⟨#[]⟩, .int .i64 0, .bool false, .bool false, .bool false, .slice none 0 0]) 7 64 Try.underlying32 hi hz0 hz1 hz2 rfl (by decide) (.slice (some ⟨g5, 0, none⟩) n1 cap5) n1 (fs.flatMap ncells) rfl hf1 ad 0 _ [] rfl rfl (by simp) (by simp) HM1.out HM2.out BW.out.size ?_; intro v6 w6 ho6 hg6 hn6 hat6)
                go_roundw
                case rel =>
                  refine ⟨i + 1, by go_num, by omega, ?_, ?_, HB3.out, fun e => absurd e (by omega)⟩
                  · rw [← HJ1.out]
                    exact RowN.cat (gs := []) HF2.out .nil (by rw [HFL.out, HJN.out]; exact ho6) hg6 hat6
                  · exact BW.out.trans ⟨hg6.os, hg6.tape, hg6.output, hg6.size, fun k hk => hg6.block k (Nat.lt_of_lt_of_le hk BW.out.size) fun e => by have := (hob k e.symm).1; omega⟩
                case measure => simp [intOf]; omega
          · have hi00 : i = 0 := by omega
            subst hi00
            rw [if_pos rfl] at hst
            have hnpos : ¬ (0 : Int) < ((0 : Nat) : Int) := by omega
            have hJ0 : joinC (Nd.mk { kind := 18 } []) ((ks.map Prod.snd).take 0) = [] := rfl
            have hbn := HI.out.2.2.2 rfl
            subst hbn
            clear hbv
            have HR := Lib.hid HI.out.1
            rw [hJ0] at HR
            have BW := Lib.hid HI.out.2.1
            have HJ1 := Lib.hid (show [] ++ xk = joinC (.mk { kind := 18 } []) ((ks.map Prod.snd).take (0 + 1)) from hst.symm)
            have hjl3 : 0 + xk.length ≤ N := by rw [hst] at hjl2; simpa using hjl2
            have HJN := Lib.hid (show ([] : List Nd).length = 0 from rfl)
            clear hst hjl2 hjl hJ0
            have HX := Lib.hid (show RdN wr (fun b => b < w3.heap.size ∧ (Value.slice none 0 0).ownBlock ≠ some b) _ xk from (HX3.out.under BW.out (Nat.le_refl _)).weak fun b _ hb => ⟨hb, fun e => by have := (HR.out.block b e).1; omega⟩)
            have hcx5 := (BW.out.cell (p := ⟨pg, 0, none⟩) hpgl).trans hcx
            clear hcx
            obtain ⟨fs, hf1, hf2⟩ := HR.out
            have hfl : fs.length = ([] : List Nd).length := hf2.len
            have hob := HR.out.block
            unfold RowF at hf1
            rw [hfl, HJN.out] at hf1
            have hfc : (fs.flatMap ncells).length = 0 * 7 := by rw [ncellsL_len, hfl, HJN.out]
            have HF2 := Lib.hid hf2
            have HFL := Lib.hid hfl
            have HFC := Lib.hid hfc
            clear hf2 hfl hfc
            by_cases hxn : 0 < xk.length
            · obtain ⟨xb, xo, xc2, hxe, _, hxB, hxlt, _⟩ := HX.out.base hxn
              obtain ⟨gs, hg1, hg2⟩ := HX.out.flat
              have hgl : gs.length = xk.length := hg1.len
              have hgc : (gs.flatMap ncells).length = xk.length * 7 := by rw [ncellsL_len, hgl]
              have hnews : ∀ j u, (gs.flatMap ncells)[j]? = some u → wr.cell? ((⟨xb, xo, none⟩ : Addr).add j) = some u := fun j u hu => by rw [Addr.add_lit]; exact hg2 xb xo _ _ hxe j u hu
              injection hxe with e1 _ e3
              subst e1 e3
              have hone := flN_one gs hg1
              have HG1 := Lib.hid hg1
              have HGL := Lib.hid hgl
              have HNW := Lib.hid hnews
              have hM1 : 0 + xk.length ≤ maxLen := by unfold maxLen; omega
              have hM2 : (0 + xk.length) * 64 ≤ 140737488355328 := by omega
              have HM1 := Lib.hid hM1
              have HM2 := Lib.hid hM2
              clear hg1 hg2 hgl hnews hM1 hM2
              go_wp2_with (at_builtin; refine wpList_append_own_at _ rfl _ _ 32 rfl w3.heap.size 35 i0 (.agg #[.int .i64 0, .string ⟨#[]⟩, .int .i64 0, .bool false, .bool false, .bool false, .slice none 0 0]) 7 64 Try.underlying32 hi hz0 hz1 hz2 rfl (by decide) (.slice none 0 0) 0 (fs.flatMap ncells) rfl hf1 ⟨xb, xo, none⟩ xk.length _ (gs.flatMap ncells) rfl hgc HNW.out hone HM1.out HM2.out BW.out.size ?_; intro v6 w6 ho6 hg6 hn6 hat6)
              go_roundw
              case rel =>
                refine ⟨0 + 1, by go_num, by omega, ?_, ?_, HB3.out, fun e => absurd e (by omega)⟩
                · rw [← HJ1.out]
                  exact RowN.cat HF2.out HG1.out (by rw [HFL.out, HGL.out, HJN.out]; exact ho6) hg6 hat6
                · exact BW.out.trans ⟨hg6.os, hg6.tape, hg6.output, hg6.size, fun k hk => hg6.block k (Nat.lt_of_lt_of_le hk BW.out.size) fun e => by have := (hob k e.symm).1; omega⟩
              case measure => simp [intOf]; omega
            · have hxk : xk = [] := List.eq_nil_of_length_eq_zero (by omega)
              subst hxk
              have hx0 : ([] : List Nd).length = 0 := rfl
              rw [hx0] at *
              have HM1 := Lib.hid (show 0 + 0 ≤ maxLen by unfold maxLen; omega)
              have HM2 := Lib.hid (show (0 + 0) * 64 ≤ 140737488355328 by omega)
              cases xa with
              | none =>
                go_wp2_with (at_builtin; refine append_none0 rfl _ _ 32 rfl w3.heap.size 35 i0 7 _ Try.underlying32 hi _ 0 (fs.flatMap ncells) rfl hf1 rfl ?_)
                go_roundw
                case rel => exact ⟨0 + 1, by go_num, by omega, by rw [← HJ1.out, List.append_nil]; exact HR.out, BW.out, HB3.out, fun e => absurd e (by omega)⟩
                case measure => simp [intOf]; omega
              | some ad =>
                go_wp2_with (at_builtin; refine wpList_append_own_at _ rfl _ _ 32 rfl w3.heap.size 35 i0 (.agg #[.int .i64 0, .string ⟨#[]⟩, .int .i64 0, .bool false, .bool false, .bool false, .slice none 0 0]) 7 64 Try.underlying32 hi hz0 hz1 hz2 rfl (by decide) (.slice none 0 0) 0 (fs.flatMap ncells) rfl hf1 ad 0 _ [] rfl rfl (by simp) (by simp) HM1.out HM2.out BW.out.size ?_; intro v6 w6 ho6 hg6 hn6 hat6)
                go_roundw
                case rel =>
                  refine ⟨0 + 1, by go_num, by omega, ?_, ?_, HB3.out, fun e => absurd e (by omega)⟩
                  · rw [← HJ1.out]
                    exact RowN.cat (gs := []) HF2.out .nil (by rw [HFL.out, HJN.out]; exact ho6) hg6 hat6
                  · exact BW.out.trans ⟨hg6.os, hg6.tape, hg6.output, hg6.size, fun k hk => hg6.block k (Nat.lt_of_lt_of_le hk BW.out.size) fun e => by have := (hob k e.symm).1; omega⟩
                case measure => simp [intOf]; omega
        · have hiM2 : M = i := by omega
          subst hiM2
          have HBK := Lib.hid (show joinC (.mk { kind := 18 } []) ((ks.map Prod.snd).take M) = L by rw [List.take_of_length_le (by rw [List.length_map, HMM.out]; omega), HKS.out, HJ.out])
          have HRL := HI.out.1
          rw [HBK.out] at HRL hbv
          rw [HNN.out] at hbv
          subst hbv
          have HBR := Lib.hid HRL.rd
          have HLR := Lib.hid (HL3.out.under HI.out.2.1 (Nat.le_refl _))
          have HBE := Lib.hid (below_seq HI.out.2.2.1 HI.out.2.1)
          clear hjl
          go_wp2_with (first | (go_at_call 16; refine (refsame_any 1000 L (by omega) (by omega) _ _ _ _ _ HBR.out HLR.out).mono ?_; rintro e w7 ⟨rfl, k7, rfl⟩; have HB7 := Lib.hid (below_seq HBE.out (below_drewN wr k7)); generalize wr.drewN k7 = w7 at *) | (go_at_call 10; (with_reducible refine (awake3_any _).mono ?_); rintro e w8 ⟨rfl, hb8⟩))
          go_ret
          exact ⟨rfl, below_seq HB7.out hb8⟩
theorem NestSplit_any (w : World) (s : ByteArray) (_hs : s.size ≤ 9223372036854775807) :
    Calls Try.prog 6 #[.string s] w fun e w' => e = .returned (.bool true) ∧ Below w.heap.size w w' := by
  by_cases h : (500 : Int) < (s.size : Int)
  · exact nsplit_many s w h
  · exact nsplit_main s w (by omega)
end Go.Proofs.Ytfpgkfpehkelcaa
