
import Derived.Test.YtkpaokcgjeplpaaDoorPrR
import Derived.Test.YtkpaokcgjeplpaaDoorPrY
namespace Go.Proofs.YtkpaokcgjeplpaaDoor
open Go.RowKit
/-! PropQuotes. -/
theorem dQ_size : ∀ i : Fin 41, (dQ i.val).size ≤ 20 := by decide +kernel
theorem qS_size : ∀ i : Fin 4, (qS.getD i.val ⟨#[]⟩).size ≤ 20 := by decide +kernel
abbrev qSC : Array Value := #[.string ⟨#[]⟩, .string ⟨#[32, 120]⟩, .string ⟨#[32, 110, 111, 110, 101]⟩, .string ⟨#[32, 51]⟩]
theorem qS_at : ∀ i : Fin 4, qSC[i.val]? = some (.string (qS.getD i.val ⟨#[]⟩)) := fun ⟨i, hi⟩ => by
  rcases (by omega : i = 0 ∨ i = 1 ∨ i = 2 ∨ i = 3) with rfl | rfl | rfl | rfl <;> rfl
theorem qW_snoc (i : Nat) : qW (i + 1) = qW i ++ [(⟨#[113]⟩ : ByteArray) ++ dQ i] := by
  unfold qW
  rw [List.range_succ, List.map_append]
  rfl
theorem qW_len (i : Nat) : (qW i).length = i := by unfold qW; rw [List.length_map, List.length_range]
set_option maxRecDepth 100000 in
set_option maxHeartbeats 800000 in
theorem pq_out (n odd : Int) (hn : n < 0 ∨ 40 < n) (w : World) (ht : TabP w) :
    Calls Tryd.prog 5 #[.int .i64 n, .int .i64 odd] w fun e w' => e = .returned (.bool true) ∧ Below w.heap.size w w' := by
  have HT := Lib.hid ht
  clear ht
  rcases hn with h | h
  · go_enter Tryd.func5, Tryd.ntmps5
    go_wp2_with (go_at_call 7; (with_reducible refine (awake12_any _ HT.out).mono ?_); rintro e w5 ⟨rfl, hb5⟩)
    go_ret
    exact ⟨rfl, hb5⟩
  · have h0 : ¬ n < 0 := by omega
    go_enter Tryd.func5, Tryd.ntmps5
    go_wp2_with (go_at_call 7; (with_reducible refine (awake12_any _ HT.out).mono ?_); rintro e w5 ⟨rfl, hb5⟩)
    go_ret
    exact ⟨rfl, hb5⟩
set_option maxRecDepth 100000 in
set_option maxHeartbeats 6400000 in
theorem pq_in (odd : Int) (N K : Nat) (hN : N < 41) (hK : K < 4) (ho : odd % 4 = (K : Int)) (w : World) (ht : TabP w) :
    Calls Tryd.prog 5 #[.int .i64 (N : Int), .int .i64 odd] w fun e w' => e = .returned (.bool true) ∧ Below w.heap.size w w' := by
  obtain ⟨i0, hi, hz0, hz1, hz2⟩ := info_parts info_str
  have hck := qchk_all hN hK
  unfold qchk at hck
  simp only [Bool.and_eq_true] at hck
  obtain ⟨hok, hre⟩ := hck
  unfold qX at hok hre
  have hsz := qS_size ⟨K, hK⟩
  have hsa := qS_at ⟨K, hK⟩
  simp only at hsz hsa
  obtain ⟨Y, hY⟩ : ∃ Y, qS.getD K ⟨#[]⟩ = Y := ⟨_, rfl⟩
  rw [hY] at hsz hsa hok hre
  have HT := Lib.hid ht
  have HO := Lib.hid ho
  have HOK := Lib.hid hok
  have HRE := Lib.hid hre
  have h0 : ¬ (N : Int) < 0 := by omega
  have h40 : ¬ (40 : Int) < (N : Int) := by omega
  have hk0 : (0 : Int) ≤ (K : Int) := by omega
  have hk1 : (K : Int) < 4 := by omega
  clear hok hre hY ht ho
  go_enter Tryd.func5, Tryd.ntmps5
  go_wp2
  go_loopw [5, 6, 7] (fun sv ov iv wr => ∃ (i : Nat) (S : ByteArray) (o0 : Value), sv = .string S ∧ S = qT i ∧ o0 = ov ∧ iv = .int .i64 i ∧ i ≤ N ∧ OwnT w.heap.size wr o0 (qW i) ∧ Below w.heap.size w wr) (fun _ _ iv _ => N - (intOf iv).toNat)
  case atStart => exact ⟨0, _, _, rfl, rfl, rfl, rfl, Nat.zero_le _, OwnT.nil _ _, Below.refl _ _⟩
  case round =>
    obtain ⟨i, S, o0, rfl, hS, rfl, rfl, hiN, hown, hB⟩ := hrel
    have hSz := qT_size ⟨i, by omega⟩
    simp only at hSz
    rw [← hS] at hSz
    have HS := Lib.hid hS
    have hws := hB.size
    have HB := Lib.hid hB
    obtain ⟨ba, bc, rfl, _⟩ := row_sl hown
    have HOW : Hid (wr.ownsRow w.heap.size 9 1 (.slice ba i bc) i ((qW i).map Value.string)) := by
      have hh := hown
      unfold OwnT at hh
      rw [qW_len] at hh
      exact hh
    rw [qW_len] at ⊢
    clear hB hown hS
    by_cases hlt : i < N
    · have hltI : (i : Int) < (N : Int) := by omega
      have hi0 : (0 : Int) ≤ (i : Int) := by omega
      have hDz := dQ_size ⟨i, by omega⟩
      simp only at hDz
      obtain ⟨D, hD⟩ : ∃ D, dQ i = D := ⟨_, rfl⟩
      have HDC : Hid (∀ W : World, Calls Tryd.prog 15 #[.int .i64 (i : Int)] W fun e w' => e = .returned (.string D) ∧ Below W.heap.size W w') := fun W => by
        have := decimal_any (i : Int) W (by omega)
        rw [show strOfNums (decT (i : Int)) = D from hD] at this
        exact this
      rw [hD] at hDz
      obtain ⟨A1, hA1⟩ : ∃ A, S ++ (⟨#[32, 39, 113]⟩ : ByteArray) = A := ⟨_, rfl⟩
      obtain ⟨A2, hA2⟩ : ∃ A, A1 ++ D = A := ⟨_, rfl⟩
      obtain ⟨A3, hA3⟩ : ∃ A, A2 ++ (⟨#[39]⟩ : ByteArray) = A := ⟨_, rfl⟩
      obtain ⟨Q1, hQ1⟩ : ∃ A, (⟨#[113]⟩ : ByteArray) ++ D = A := ⟨_, rfl⟩
      have HST : Hid (A3 = qT (i + 1)) := by
        show _ = _
        rw [qT, hD, ← HS.out, hA1, hA2, hA3]
      have HWT : Hid (qW (i + 1) = qW i ++ [Q1]) := by
        show _ = _
        rw [qW_snoc, hD, hQ1]
      have z1 : A1.size = S.size + 3 := by rw [← hA1, ByteArray.size_append]; rfl
      have z2 : A2.size = A1.size + D.size := by rw [← hA2, ByteArray.size_append]
      have g1 : ∀ W : World, (Op.stringOp .add S ⟨#[32, 39, 113]⟩).run Tryd.prog W = .ok (.string A1) W := fun W => by rw [← hA1]; exact run_string_add_sum W _ _ (by show S.size + 3 ≤ _; omega)
      have g2 : ∀ W : World, (Op.stringOp .add A1 D).run Tryd.prog W = .ok (.string A2) W := fun W => by rw [← hA2]; exact run_string_add_sum W _ _ (by show A1.size + D.size ≤ _; omega)
      have g3 : ∀ W : World, (Op.stringOp .add A2 ⟨#[39]⟩).run Tryd.prog W = .ok (.string A3) W := fun W => by rw [← hA3]; exact run_string_add_sum W _ _ (by show A2.size + 1 ≤ _; omega)
      have g4 : ∀ W : World, (Op.stringOp .add ⟨#[113]⟩ D).run Tryd.prog W = .ok (.string Q1) W := fun W => by rw [← hQ1]; exact run_string_add_sum W _ _ (by show 1 + D.size ≤ _; omega)
      clear z1 z2 hA1 hA2 hA3 hQ1 hD
      go_upto_region 9 with (go_at_call 15; (with_reducible refine (HDC.out _).mono ?_); rintro e w2 ⟨rfl, hb2⟩)
      go_wp2_with (first | (go_at_call 15; (with_reducible refine (HDC.out _).mono ?_); rintro e w3 ⟨rfl, hb3⟩; have hb23 := below_seq hb2 hb3; have HB3 := Lib.hid (below_seq HB.out hb23); have hs3 := hb23.size; have HNEW := Lib.hid (cell_one_new w3 (.string Q1) 9); have HOW5 := Lib.hid ((prow_below HOW.out hb23).alloc (.cells #[.string Q1] 9))) | (at_builtin; refine wpList_append_own _ rfl _ _ 23 rfl w.heap.size 9 i0 (.string ⟨#[]⟩) 1 16 Tryd.underlying23 hi hz0 hz1 hz2 rfl (by decide) _ _ _ rfl HOW5.out ⟨_, 0, none⟩ 1 1 [.string Q1] rfl rfl HNEW.out (by simp [Value.oneCell']) (by unfold maxLen; omega) (by (try simp); omega) (by (try simp); omega) ?_; intro v' w6 ho6 hg6 _))
      have hb6 : Below w.heap.size w w6 := (HB3.out.alloc (by omega) (.cells #[.string Q1] 9)).grown hg6 (by simp; omega) (fun q hq => by have := (HOW.out.lt q hq).1; omega)
      go_roundw
      case rel => exact ⟨i + 1, _, v', rfl, HST.out, rfl, by go_num, by omega, by rw [HWT.out]; exact OwnT.snoc (by rw [qW_len]; exact ho6), hb6⟩
      case measure => simp [intOf]; omega
    · obtain rfl : i = N := by omega
      rw [← HS.out] at HOK HRE
      have HWR := Lib.hid (OwnT.rd (show OwnT w.heap.size wr (.slice ba i bc) (qW i) by unfold OwnT; rw [qW_len]; exact HOW.out))
      obtain ⟨X, hX⟩ : ∃ A, S ++ Y = A := ⟨_, rfl⟩
      rw [hX] at HOK HRE
      have g5 : ∀ W : World, (Op.stringOp .add S Y).run Tryd.prog W = .ok (.string X) W := fun W => by rw [← hX]; exact run_string_add_sum W _ _ (by show S.size + Y.size ≤ _; omega)
      have HON := Lib.hid (fun (W : World) (ht : TabP W) => one12_any X W ht HOK.out)
      have hz : ∀ W : World, (W.alloc (.cells #[.string ⟨#[]⟩, .string ⟨#[32, 120]⟩, .string ⟨#[32, 110, 111, 110, 101]⟩, .string ⟨#[32, 51]⟩] 9)).cell? ⟨W.heap.size, K, none⟩ = some (.string Y) := fun W => by
        have := cell_of_row (W.alloc (.cells qSC 9)) W.heap.size K _ _ (0, 0) (CB.new (T := 9) W _)
        exact this.trans hsa
      generalize one12 X = R at *
      obtain ⟨RD, ER⟩ := R
      have HB2 := Lib.hid (HB.out.alloc HB.out.size (.cells #[.string ⟨#[]⟩, .string ⟨#[32, 120]⟩, .string ⟨#[32, 110, 111, 110, 101]⟩, .string ⟨#[32, 51]⟩] 9))
      have HWR2 := Lib.hid (HWR.out.below ((Below.refl wr.heap.size wr).alloc (Nat.le_refl _) (.cells #[.string ⟨#[]⟩, .string ⟨#[32, 120]⟩, .string ⟨#[32, 110, 111, 110, 101]⟩, .string ⟨#[32, 51]⟩] 9)))
      have hz1 := hz wr
      clear hX hz HOW HOK HWR hsa
      go_upto_region 11 with (go_at_call 13; (with_reducible refine (round_any odd 4 K _ (by decide) (by decide) HO.out).mono ?_); rintro e w3 ⟨rfl, rfl⟩)
      go_upto_region 12 with fail
      generalize hWW : wr.alloc (.cells #[.string ⟨#[]⟩, .string ⟨#[32, 120]⟩, .string ⟨#[32, 110, 111, 110, 101]⟩, .string ⟨#[32, 51]⟩] 9) = W2 at *
      have HT2 := Lib.hid (HT.out.below HB2.out)
      clear hWW hz1 g5
      go_upto_region 13 with (go_at_call 14; (with_reducible refine (HON.out _ HT2.out).mono ?_); rintro e w3 ⟨⟨v3, rfl, vc, vq, vr, va, vs, rfl, o1, o2, o3, o4, o5⟩, hb3⟩; obtain ⟨ac1, cc1, rfl, _⟩ := row_sl o1; have HQR := Lib.hid (OwnT.rd o2); obtain ⟨aq1, cq1, rfl, _⟩ := row_sl o2; obtain ⟨ar1, cr1, rfl, _⟩ := row_sl o3; obtain ⟨aa1, ca1, rfl, _⟩ := row_sl o4; obtain ⟨ae1, ce1, rfl, _⟩ := row_sl o5; simp only at HQR hb3 ⊢; have HA3 := Lib.hid ((Below.refl w3.heap.size w3).alloc (Nat.le_refl _) (.cells (vaC RD (.slice ac1 RD.sty.cont.length cc1) (.slice aq1 RD.sty.quotes.length cq1) (.slice ar1 RD.sty.reset.length cr1) (.slice aa1 RD.sty.add.length ca1) (.slice ae1 RD.sty.set.length ce1)) 35)); have HB3 := Lib.hid (below_seq HB2.out (below_seq hb3 HA3.out)); have HC3 := Lib.hid (CB.new (T := 35) w3 (vaC RD (.slice ac1 RD.sty.cont.length cc1) (.slice aq1 RD.sty.quotes.length cq1) (.slice ar1 RD.sty.reset.length cr1) (.slice aa1 RD.sty.add.length ca1) (.slice ae1 RD.sty.set.length ce1))); have HT3 := Lib.hid (HT2.out.below (below_seq hb3 HA3.out)); have HWR3 := Lib.hid (HWR2.out.below (below_seq hb3 HA3.out)); have HQR3 := Lib.hid (HQR.out.below HA3.out); clear o1 o2 o3 o4 o5 hb3)
      generalize hW3 : w3.alloc (.cells _ 35) = W3 at *
      clear hW3 HA3 HQR
      have b8 : W3.cell? ⟨w3.heap.size, 8, none⟩ = some (.slice aq1 RD.sty.quotes.length cq1) := HC3.out.cell 8
      have b9 : W3.cell? ⟨w3.heap.size, 9, none⟩ = some (.bool RD.sty.auto) := HC3.out.cell 9
      have hre := HRE.out
      unfold qres at hre
      by_cases hi00 : i = 0
      · subst hi00
        rw [if_pos rfl] at hre
        simp only [Bool.and_eq_true, beq_iff_eq] at hre
        obtain ⟨r1, r2, r3⟩ := hre
        have r2 : RD.sty.quotes.length = 0 := by simpa using r2
        have r3 : RD.sty.auto = false := by simpa using r3
        rw [r2] at b8
        rw [r3] at b9
        have hK2 : ((K : Int) == 2) = (K == 2) := by rw [Bool.eq_iff_iff, beq_iff_eq, beq_iff_eq]; omega
        cases hq : (K == 2)
        · rw [hq] at r1 hK2
          go_wp2_with (go_at_call 7; (with_reducible refine (awake12_any _ HT3.out).mono ?_); rintro e w5 ⟨rfl, hb5⟩; have HB5 := Lib.hid (below_seq HB3.out hb5))
          go_ret
          exact ⟨rfl, HB5.out⟩
        · rw [hq] at r1 hK2
          go_wp2_with (go_at_call 7; (with_reducible refine (awake12_any _ HT3.out).mono ?_); rintro e w5 ⟨rfl, hb5⟩; have HB5 := Lib.hid (below_seq HB3.out hb5))
          go_ret
          exact ⟨rfl, HB5.out⟩
      · rw [if_neg hi00] at hre
        have hiz : ((i : Int) == 0) = false := beq_eq_false_iff_ne.2 (by omega)
        have hiz2 : ¬ (i : Int) = 0 := by omega
        have hKI : ((K : Int) == 0) = (K == 0) := by rw [Bool.eq_iff_iff, beq_iff_eq, beq_iff_eq]; omega
        have hME : (i : Int).tmod 2 = ((i % 2 : Nat) : Int) := by rw [Int.tmod_eq_emod_of_nonneg (by omega)]; omega
        have HME := Lib.hid hME
        clear hME
        unfold qgood at hre
        cases hk : (K == 0)
        · rw [hk] at hre hKI
          simp only [Bool.false_and, Bool.false_eq_true, if_false] at hre
          have r1 : (ER == 0) = false := by simpa using hre
          go_wp2_with (go_at_call 7; (with_reducible refine (awake12_any _ HT3.out).mono ?_); rintro e w5 ⟨rfl, hb5⟩; have HB5 := Lib.hid (below_seq HB3.out hb5))
          go_ret
          exact ⟨rfl, HB5.out⟩
        · rw [hk] at hre hKI
          cases hm : (i % 2 == 0)
          · have hT : (i : Int).tmod 2 = 1 := by rw [HME.out]; have : ¬ i % 2 = 0 := by simpa using hm
                                                 omega
            rw [hm] at hre
            simp only [Bool.false_and, Bool.true_and, Bool.false_eq_true, if_false] at hre
            have r1 : (ER == 0) = false := by simpa using hre
            go_wp2_with (go_at_call 7; (with_reducible refine (awake12_any _ HT3.out).mono ?_); rintro e w5 ⟨rfl, hb5⟩; have HB5 := Lib.hid (below_seq HB3.out hb5))
            go_ret
            exact ⟨rfl, HB5.out⟩
          · have hT : (i : Int).tmod 2 = 0 := by rw [HME.out]; have : i % 2 = 0 := by simpa using hm
                                                 omega
            rw [hm] at hre
            by_cases h32 : i ≤ 32
            · rw [decide_eq_true h32] at hre
              rw [if_pos (by rfl)] at hre
              simp only [Bool.and_eq_true] at hre
              obtain ⟨r1, r2, r3⟩ := hre
              have r2 : RD.sty.quotes = qW i := maps_eq (by simpa using r2)
              have r3 : RD.sty.auto = false := by simpa using r3
              have h32I : (i : Int) ≤ 32 := by omega
              have h32b : decide ((i : Int) ≤ 32) = true := decide_eq_true h32I
              rw [r2, qW_len] at b8
              rw [r2, qW_len] at HQR3
              rw [r3] at b9
              go_wp2_with (first | (go_at_call 16; (refine (texts_any (qW i) (qW i) _ _ _ HQR3.out HWR3.out (by rw [qW_len]; omega)).mono ?_); rintro e w4 ⟨rfl, hb4⟩; rw [decide_eq_true (rfl : qW i = qW i)]; have HB4 := Lib.hid (below_seq HB3.out hb4); have b94 := (hb4.cell (p := ⟨w3.heap.size, 9, none⟩) HC3.out.lt).trans b9; have HT4 := Lib.hid (HT3.out.below hb4)) | (go_at_call 7; (with_reducible refine (awake12_any _ HT4.out).mono ?_); rintro e w5 ⟨rfl, hb5⟩; have HB5 := Lib.hid (below_seq HB4.out hb5)))
              go_ret
              exact ⟨rfl, HB5.out⟩
            · rw [decide_eq_false h32] at hre
              simp only [Bool.and_false, Bool.false_eq_true, if_false] at hre
              have r1 : (ER == 0) = false := by simpa using hre
              have h32I : ¬ (i : Int) ≤ 32 := by omega
              have h32b : decide ((i : Int) ≤ 32) = false := decide_eq_false h32I
              go_wp2_with (go_at_call 7; (with_reducible refine (awake12_any _ HT3.out).mono ?_); rintro e w5 ⟨rfl, hb5⟩; have HB5 := Lib.hid (below_seq HB3.out hb5))
              go_ret
              exact ⟨rfl, HB5.out⟩
theorem PropQuotes_any (w : World) (ht : TabP w) (n : Int) (_hn : (Lit.int .i64 n).wf = true) (odd : Int) (_ho : (Lit.int .i64 odd).wf = true) :
    Calls Tryd.prog 5 #[.int .i64 n, .int .i64 odd] w fun e w' => e = .returned (.bool true) ∧ Below w.heap.size w w' := by
  by_cases h : n < 0 ∨ 40 < n
  · exact pq_out n odd h w ht
  · have h3 := Int.emod_nonneg odd (show (4 : Int) ≠ 0 by decide)
    have h4 := Int.emod_lt_of_pos odd (show (0 : Int) < 4 by decide)
    have := pq_in odd n.toNat (odd % 4).toNat (by omega) (by omega) (by omega) w ht
    rwa [show ((n.toNat : Nat) : Int) = n by omega] at this
end Go.Proofs.YtkpaokcgjeplpaaDoor
