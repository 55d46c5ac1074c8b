
import Derived.Test.YtfggpenfdfklkaaGreatRuU
import Derived.Deep.AppendLies
namespace Go.Proofs.YtfggpenfdfklkaaGreat
open Go.RowKit
theorem pr_en : ∀ (args : Array Value) (w : World), (callFunc 26 args).run Tryz.prog w = .ok (.enter 26 args) w := enters_of Tryz.func26 (by kernel_rfl) rfl
set_option maxRecDepth 100000 in
set_option maxHeartbeats 400000 in
theorem rsheet_big (a : Option Addr) (n c : Nat) (w : World) (hn : 65536 < n) :
    Calls Tryz.prog 10 #[.slice a n c] w fun e w' => e = .returned (.tuple #[.slice none 0 0, .int .i64 3]) ∧ w' = w := by
  have hb0 : (65536 : Int) < (n : Int) := by omega
  go_enter Tryz.func10, Tryz.ntmps10
  go_wp2
  go_ret2
  exact ⟨rfl, rfl⟩
set_option maxRecDepth 100000 in
set_option maxHeartbeats 6400000 in
theorem rsheet_any (xs : List Int) (v : Value) (w : World) (hv : Rd .u8 w v xs) (hs : xs.length ≤ 65536) :
    Calls Tryz.prog 10 #[v] w (SheetP w (rulesS (ndsS (toks (readS (strOfNums xs)))))) := by
  obtain ⟨i0, hi, hz0, hz1, hz2⟩ := info_parts info_rule
  have HV := Lib.hid hv
  obtain ⟨a0, c0, rfl, hle0, hcell0⟩ := hv
  have hsz0 : (strOfNums xs).size = xs.length := strOfNums_size xs
  have hrl : (readS (strOfNums xs)).length ≤ xs.length := by
    have := readS_length (strOfNums xs)
    rw [hsz0] at this
    exact this
  have htl : (toks (readS (strOfNums xs))).length ≤ 65536 := Nat.le_trans (toks_len_leZ _ _ (Nat.le_refl _)) (Nat.le_trans hrl hs)
  have HSZ := Lib.hid (nds_sized (strOfNums xs) (by omega))
  have HNM := Lib.hid (nam_nds (readS (strOfNums xs)))
  have hsz : szL (ndsS (toks (readS (strOfNums xs)))) ≤ 65536 := Nat.le_trans (szL_nds _ _ (Nat.le_refl _)) htl
  have hb0 : ¬ (65536 : Int) < (xs.length : Int) := by omega
  clear hcell0
  go_enter Tryz.func10, Tryz.ntmps10
  go_wp2_with fail
  refine (read_any _ _ _ HV.out (by omega)).mono ?_
  rintro e w2 ⟨⟨v2, rfl, hr2⟩, hb2⟩
  go_wp2_with fail
  refine (all_any _ _ _ hr2 (by omega) (readS_ok _)).mono ?_
  rintro e w3 ⟨v3, rfl, hr3, hb3⟩
  go_wp2_with fail
  refine (nall_any _ _ _ hr3 (by omega)).mono ?_
  rintro e w4 ⟨⟨v4, rfl, hr4⟩, hb4⟩
  generalize ndsS (toks (readS (strOfNums xs))) = l at *
  have HBA := Lib.hid (below_seq (below_seq hb2 hb3) hb4)
  have hll := szL_ge l
  obtain ⟨a, c, rfl, hlc⟩ := hr4.shape
  have hN : l.length ≤ 100000000 := by omega
  have hx := sized_here HSZ.out
  have hxk := sized_kids HSZ.out
  have hz : szL l ≤ 100000000 := by omega
  have HW0 := Lib.hid (sheet_box (hr4.weak (Q := fun b => b < w4.heap.size) fun b hl _ => hl))
  have HPS := Lib.hid (fun (j : Nat) (W w0 : World) (hW : WN (fun b => b < w4.heap.size) w0 w4.heap.size (.slice a l.length c) l j W) => pass_any pr_en pr_k hW hx hN)
  have HEN := Lib.hid (fun (j : Nat) (W w0 : World) (hW : WN (fun b => b < w4.heap.size) w0 w4.heap.size (.slice a l.length c) l j W) => endedN hW)
  have HRU := Lib.hid (fun (j : Nat) (W : World) (hW : WN (fun b => b < w4.heap.size) W w4.heap.size (.slice a l.length c) l j W) (hj : j < l.length) => rule_any hW (fun k hk => Nat.lt_trans hk hW.old) hj hx hxk hz)
  have HL := Lib.hid hll
  clear hr2 hr3 hr4 hb2 hb3 hb4 htl hrl hx hxk hz hll hsz0
  go_wp2_with (go_at_call 25; (with_reducible refine (HPS.out 0 _ _ HW0.out).mono ?_); rintro e w1 ⟨rfl, h1⟩)
  go_loopw [5] (fun ov wr => ∃ (i : Nat) (o0 : Value) (ks : List (Rc × RuleD)), o0 = ov ∧ ShW w4 (w4.alloc (.cells #[.slice a l.length c, .int .i64 0] 62)) (.slice a l.length c) l i wr o0 ks) (fun _ wr => leftN w4.heap.size l.length wr)
  case atStart =>
    refine ⟨_, _, [], rfl, h1, LsRu.nil _ _ _, Nat.zero_le _, Nat.zero_le _, ?_, passP_stop _ _ _⟩
    rw [List.map_nil, List.nil_append, rulesS_pass, List.drop_zero]
  case round =>
    obtain ⟨i, o0, ks, rfl, hI⟩ := hrel
    have HI := Lib.hid hI
    have HH := Lib.hid hI.wn.here
    have hile := hI.wn.le
    clear hI
    by_cases hlt : i < l.length
    · have HD : Hid (decide (i = l.length) = false) := Lib.hid (decide_eq_false (by omega))
      have hone := prules_one hlt HI.out.stop
      have hgt := next_gt hlt HI.out.stop
      have hge2 := passP_ge (p := prT) (l := l) (i := nextP l i)
      have HOK : Hid (okP l i = (atP awT l i || atP blkT l (stopP l i))) := ok_is hlt HNM.out
      rw [← HOK.out] at hone
      cases hok : okP l i
      · have HK := Lib.hid hok
        have HRUN : Hid (ks.map Prod.snd ++ rulesS (l.drop (passP prT l (nextP l i))) = rulesS l) := by
          show _ = _
          rw [hok, if_neg (by decide), List.nil_append] at hone
          rw [rulesS_pass, ← hone, HI.out.run]
        clear hone hok
        go_wp2_with (first | (go_at_call 27; (with_reducible refine (HEN.out i _ _ HH.out).mono ?_); rintro e w1 ⟨rfl, h1⟩; rw [HD.out]) | (go_at_call 28; (with_reducible refine (HRU.out i _ h1.here hlt).mono ?_); rintro e w5 ⟨⟨pa, pc, da, dc, rfl, hp5, hd5⟩, h5⟩; rw [HK.out]; have h6 := h5.below ((Below.refl w5.heap.size w5).alloc (Nat.le_refl _) (.cells #[.string (ruleP l i).atw, .slice pa (ruleP l i).pre.length pc, .bool (ruleP l i).block, .slice da (ruleP l i).decls.length dc] 45))) | (go_at_call 25; (with_reducible refine (HPS.out _ _ _ h6.here).mono ?_); rintro e w7 ⟨rfl, h7⟩))
        go_roundw
        case rel =>
          have hw := (h1.since h6).since h7
          exact ⟨_, _, ks, rfl, HI.out.wn.since hw, HI.out.row.gw hw.gw (fun k hk => by rcases hk with hk | hk <;> omega) (by omega), by have := HI.out.len; omega, HI.out.few, HRUN.out, passP_stop _ _ _⟩
        case measure =>
          rw [h7.left, HH.out.left]
          omega
      · have HK := Lib.hid hok
        rw [hok, if_pos rfl] at hone
        have HRUN : Hid (ks.map Prod.snd ++ ([ruleP l i] ++ rulesS (l.drop (passP prT l (nextP l i)))) = rulesS l) := by
          show _ = _
          rw [rulesS_pass, ← hone, HI.out.run]
        clear hone hok
        obtain ⟨R, hR⟩ : ∃ R, ruleP l i = R := ⟨_, rfl⟩
        rw [hR] at HRUN
        have HRR := Lib.hid hR
        clear hR
        obtain ⟨AW, PR, BL, KD⟩ := R
        have hki := HI.out.len
        have hfew := HI.out.few
        obtain ⟨oa, oc, rfl, hoc⟩ := row_sl HI.out.row.row
        obtain ⟨m, hm⟩ : ∃ m, ks.length = m := ⟨_, rfl⟩
        have HOB := Lib.hid (fun q hq => World.ownsRow.lt HI.out.row.row q hq)
        rw [hm] at hki hoc HI hfew HOB ⊢
        have HM := Lib.hid hm
        clear hm
        by_cases hfull : m = 500
        · have HF := Lib.hid hfull
          have hful2 : ((m : Int) == 500) = true := by rw [hfull]; rfl
          clear hfull
          have HLEN : Hid (¬ (rulesS l).length ≤ 500) := by
            show ¬ _
            rw [← HRUN.out, List.length_append, List.length_map, HM.out, HF.out, List.length_append, List.length_singleton]
            omega
          go_wp2_with (first | (go_at_call 27; (with_reducible refine (HEN.out i _ _ HH.out).mono ?_); rintro e w1 ⟨rfl, h1⟩; rw [HD.out]) | (go_at_call 28; (with_reducible refine (HRU.out i _ h1.here hlt).mono ?_); intro e w5 hq; unfold RulePost at hq; rw [HRR.out, HK.out] at hq; dsimp only at hq; obtain ⟨⟨pa, pc, da, dc, rfl, hp5, hd5⟩, h5⟩ := hq; have h6 := h5.below (((Below.refl w5.heap.size w5).alloc (Nat.le_refl _) (.cells #[.string AW, .slice pa PR.length pc, .bool BL, .slice da KD.length dc] 45)))))
          go_ret2
          refine ⟨⟨_, by unfold shE; rw [if_neg HLEN.out]; rfl, ?_⟩, below_seq HBA.out (gw_box (HI.out.wn.gw.trans (h1.since h6).gw))⟩
          unfold shR
          rw [if_neg HLEN.out]
          exact RdRu.nil _ _
        · have hful2 : ((m : Int) == 500) = false := beq_eq_false_iff_ne.2 (by omega)
          have HOW : Hid (∀ k, (Value.slice oa m oc).ownBlock = some k → (w4.alloc (.cells #[.slice a l.length c, .int .i64 0] 62)).heap.size ≤ k) := by
            show ∀ k, _ → _
            intro k hk
            have := (HOB.out k hk).1
            show (w4.heap.push _).size ≤ k
            rw [Array.size_push]
            exact this
          go_wp2_with (first | (go_at_call 27; (with_reducible refine (HEN.out i _ _ HH.out).mono ?_); rintro e w1 ⟨rfl, h1⟩; rw [HD.out]) | (go_at_call 28; (with_reducible refine (HRU.out i _ h1.here hlt).mono ?_); intro e w5 hq; unfold RulePost at hq; rw [HRR.out, HK.out] at hq; dsimp only at hq; obtain ⟨⟨pa, pc, da, dc, rfl, hp5, hd5⟩, h5⟩ := hq; have hbb := (((Below.refl w5.heap.size w5).alloc (Nat.le_refl _) (.cells #[.string AW, .slice pa PR.length pc, .bool BL, .slice da KD.length dc] 45))); have h6 := h5.below hbb; have c60 := CB.new (T := 45) w5 (ruC AW (.slice pa PR.length pc) BL (.slice da KD.length dc)); have d0 := c60.cell 0; have d1 := c60.cell 1; have d2 := c60.cell 2; have d3 := c60.cell 3; have HB6 := Lib.hid hbb; have hw := h1.since h6; have HB7 := Lib.hid ((Below.refl (w5.alloc (.cells #[.string AW, .slice pa PR.length pc, .bool BL, .slice da KD.length dc] 45)).heap.size (w5.alloc (.cells #[.string AW, .slice pa PR.length pc, .bool BL, .slice da KD.length dc] 45))).alloc (Nat.le_refl _) (.cells #[.string AW, .slice pa PR.length pc, .bool BL, .slice da KD.length dc] 45)); have HR6 := Lib.hid ((HI.out.row.gw hw.gw (fun k hk => by rcases hk with hk | hk <;> omega) (by omega)).below HB7.out); have HRW := HR6.out.row; rw [HM.out] at HRW; have hn7 := rcells_new (w5.alloc (.cells #[.string AW, .slice pa PR.length pc, .bool BL, .slice da KD.length dc] 45)) AW (.slice pa PR.length pc) BL (.slice da KD.length dc) 45; rw [show (w5.alloc (.cells #[.string AW, .slice pa PR.length pc, .bool BL, .slice da KD.length dc] 45)).heap.size = w5.heap.size + 1 by simp] at hn7; have HNEW := Lib.hid hn7; clear hn7; have h8 := hw.below HB7.out; have hsz6 : w4.heap.size + 1 ≤ ((w5.alloc (.cells #[.string AW, .slice pa PR.length pc, .bool BL, .slice da KD.length dc] 45)).alloc (.cells #[.string AW, .slice pa PR.length pc, .bool BL, .slice da KD.length dc] 45)).heap.size := Nat.succ_le_of_lt h8.wk.lt) | (at_builtin; go_loud (refine wpList_append_lies _ rfl _ _ 24 rfl (w4.heap.size + 1) 45 i0 (.agg #[.string ⟨#[]⟩, .slice none 0 0, .bool false, .slice none 0 0]) 4 72 Tryz.underlying24 hi hz0 hz1 hz2 rfl (by decide) (.slice oa m oc) m ((ks.map Prod.fst).flatMap rcells) rfl HRW ⟨_, 0, none⟩ 1 1 (rcells (AW, .slice pa PR.length pc, BL, .slice da KD.length dc)) rfl rfl HNEW.out (rcells_one _ _ _ _ _ _ _ _) (by decide) (by unfold maxLen; omega) (by omega) hsz6 _ rfl ?_); intro g cap w7 hown7 hgrow7 hat7 hlt7; have h9 := (HI.out.wn.since h8).grownRow hgrow7 HOW.out) | (go_at_call 25; (with_reducible refine (HPS.out _ _ _ h9.here).mono ?_); rintro e w10 ⟨rfl, h10⟩))
          have hv7 := ((hp5.under HB6.out (Nat.le_refl _)).under HB7.out (Nat.le_refl _)).weak (Q := fun b => (b < w4.heap.size ∨ w4.heap.size + 1 ≤ b) ∧ (Value.slice oa m oc).ownBlock ≠ some b) (fun q _ hq => by
              have hs := HI.out.wn.gw.size
              have hs1 := HI.out.wn.wk.lt
              have hs2 := h1.gw.size
              rcases hq with hq | hq
              · exact ⟨.inl hq, fun e => by have := (HOB.out q e).1; omega⟩
              · exact ⟨.inr (by omega), fun e => by have := (HOB.out q e).2; omega⟩)
          have hd7 := ((hd5.under HB6.out (Nat.le_refl _)).under HB7.out (Nat.le_refl _)).weak (Q := fun b => (b < w4.heap.size ∨ w4.heap.size + 1 ≤ b) ∧ (Value.slice oa m oc).ownBlock ≠ some b) (fun q _ hq => by
              have hs := HI.out.wn.gw.size
              have hs1 := HI.out.wn.wk.lt
              have hs2 := h1.gw.size
              rcases hq with hq | hq
              · exact ⟨.inl hq, fun e => by have := (HOB.out q e).1; omega⟩
              · exact ⟨.inr (by omega), fun e => by have := (HOB.out q e).2; omega⟩)
          have hP := HR6.out.push HM.out hown7 hgrow7 hat7 (x := (AW, .slice pa PR.length pc, BL, .slice da KD.length dc)) (d := ⟨AW, PR, BL, KD⟩) ⟨rfl, hv7, rfl, hd7⟩
          go_roundw
          case rel => exact ⟨_, _, _, rfl, h9.since h10, hP.gw h10.gw (fun k hk => by rcases hk with hk | hk <;> omega) (by omega), by rw [List.length_append, HM.out]; simp; omega, by rw [List.length_append, HM.out]; simp; omega, by rw [List.map_append, List.append_assoc]; exact HRUN.out, passP_stop _ _ _⟩
          case measure =>
            rw [h10.left, HH.out.left]
            omega
    · have HD : Hid (decide (i = l.length) = true) := Lib.hid (decide_eq_true (by omega))
      go_wp2_with (go_at_call 27; (with_reducible refine (HEN.out i _ _ HH.out).mono ?_); rintro e w1 ⟨rfl, h1⟩; rw [HD.out])
      have hrd := (HI.out.row.gw h1.gw (fun k hk => by rcases hk with hk | hk <;> omega) (by omega)).rd
      have hks : ks.map Prod.snd = rulesS l := by
        have h := HI.out.run
        rw [List.drop_eq_nil_of_le (by omega)] at h
        rw [rulesS_nil, List.append_nil] at h
        exact h
      have h5 : (rulesS l).length ≤ 500 := by
        rw [← hks, List.length_map]
        exact HI.out.few
      rw [hks] at hrd
      go_ret2
      refine ⟨⟨_, by unfold shE; rw [if_pos h5]; rfl, ?_⟩, below_seq HBA.out (gw_box (HI.out.wn.gw.trans h1.gw))⟩
      unfold shR
      rw [if_pos h5]
      exact hrd.weak fun _ _ _ => trivial
end Go.Proofs.YtfggpenfdfklkaaGreat
