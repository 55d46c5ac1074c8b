
import Derived.Test.YtkbodhhhphodiaaSyAf
import Derived.Deep.CutBlock
import Derived.Deep.DeepMust
namespace Go.Proofs.Ytkbodhhhphodiaa
open Go.RowKit
theorem wL_le (xs : List Int) (k j : Nat) (hk : k ≤ 12) : nth (wL xs k) j ≤ 9223372036854775807 := by
  by_cases hj : j < k
  · rw [wL_at xs k j hj]
    have := (wN_bound xs (k - j)).2
    omega
  · unfold nth
    rw [List.getD_eq_getElem?_getD, List.getElem?_eq_none (by rw [wL_len]; omega)]
    show (0 : Int) ≤ _
    decide
set_option maxRecDepth 100000 in
set_option maxHeartbeats 6400000 in
theorem adds_main (xs : List Int) (v : Value) (N k : Nat) (w : World) (h1 : Rd .i64 w v xs) (hk : xs.length = k) (hk1 : 1 ≤ k) (hk2 : k ≤ 12) (hN1 : 1 ≤ N) (hN2 : N ≤ 2147483648) :
    Calls Try.prog 5 #[v, .int .i64 N] w fun e w' => e = .returned (.bool true) ∧ Below w.heap.size w w' := by
  obtain ⟨a, c, rfl, hle, hx⟩ := h1
  rw [hk] at hle hx ⊢
  clear hk
  obtain ⟨b, off, rfl, hb, hc⟩ := hx (by omega)
  have HC := Lib.hid hc
  clear hx hc
  obtain ⟨i0, hi, hz0, hz1, hz2⟩ := info_parts info_int
  obtain ⟨j0, hj0, hy0, hy1, hy2⟩ := info_parts info_str
  have c1 : ¬ (k : Int) < 1 := by omega
  have c2 : ¬ (12 : Int) < (k : Int) := by omega
  have c3 : ¬ (N : Int) < 1 := by omega
  have c4 : ¬ (2147483648 : Int) < (N : Int) := by omega
  have d1 : decide ((k : Int) < 1) = false := decide_eq_false c1
  have d2 : decide ((12 : Int) < (k : Int)) = false := decide_eq_false c2
  have d3 : decide ((N : Int) < 1) = false := decide_eq_false c3
  have d4 : decide ((2147483648 : Int) < (N : Int)) = false := decide_eq_false c4
  go_enter Try.func5, Try.ntmps5
  go_wp2_with fail
  refine (made_any _ _ _ _ _).mono ?_
  rintro e w1 ⟨rfl, hb1⟩
  have hz := hb1.size
  go_wp2_with fail
  go_loopw [6, 7] (fun wv iv wr => ∃ (i : Nat) (wt : Int) (s1 s2 : Value), iv = .int .i64 i ∧ wv = .int .i64 wt ∧ wt = wN xs i ∧ i ≤ k ∧ AdI w w1.heap.size xs i i s1 s2 wr) (fun _ iv _ => k - (intOf iv).toNat)
  case atStart => exact ⟨0, 0, _, _, rfl, rfl, rfl, Nat.zero_le _, ⟨Bx.new _ _, OwnT.nil _ _, OwnN.nil _ _, hb1.alloc hz _, hz⟩⟩
  case round =>
    obtain ⟨i, wt, s1, s2, rfl, rfl, hwt, hik, hI⟩ := hrel
    have hws := hI.below.size
    have HI := Lib.hid hI
    have hbl := hI.bx.lt
    obtain ⟨a1, p1, rfl⟩ := ownT_len hI.osv
    obtain ⟨a2, p2, rfl⟩ := ownN_len hI.owv
    rw [sL_len, wL_len] at *
    clear hI
    have hbd := wN_bound xs i
    have hw0 : 0 ≤ wt := by omega
    have hw1 : wt ≤ 12000 := by omega
    have HWT := Lib.hid hwt
    clear hwt hbd
    by_cases hlt : i < k
    · have hltI : (i : Int) < (k : Int) := by omega
      have hi0 : (0 : Int) ≤ (i : Int) := by omega
      have e0 := (HI.out.below.cell (p := ⟨b, off + i, none⟩) hb).trans (HC.out i hlt)
      have hr0 := Int.emod_nonneg (nth xs i) (show (1000 : Int) ≠ 0 by decide)
      have hr1 := Int.emod_lt_of_pos (nth xs i) (show (0 : Int) < 1000 by decide)
      have HX1 : Hid (wN xs (i + 1) = wt + 1 + nth xs i % 1000) := by
        show _ = _
        rw [wN, ← HWT.out]
      have q3 : wr.cell? ⟨w1.heap.size, 3, none⟩ = some (.slice a1 i p1) := HI.out.bx.cell 3
      have q4 : wr.cell? ⟨w1.heap.size, 4, none⟩ = some (.slice a2 i p2) := HI.out.bx.cell 4
      have f3 : wr.frozen? ⟨w1.heap.size, 3, none⟩ = false := HI.out.bx.frozen 3
      have f4 : wr.frozen? ⟨w1.heap.size, 4, none⟩ = false := HI.out.bx.frozen 4
      generalize hnx : nth xs i = nx at *
      go_wp2_with fail
      refine (sy_round nx 1000 (nx % 1000) _ (by decide) (by decide) rfl).mono ?_
      rintro e w9 ⟨rfl, rfl⟩
      generalize hmm : nx % 1000 = mm at *
      have hsum : wt + 1 + mm ≤ 20000 := by omega
      have HX2 := HX1
      clear hnx hmm
      have k1 : 1 + i ≤ maxLen := by unfold maxLen; omega
      have k2 : (1 + i) * 8 ≤ 140737488355328 := by omega
      have k3 : (1 + i) * 16 ≤ 140737488355328 := by omega
      have K1 := Lib.hid k1
      have K2 := Lib.hid k2
      have K3 := Lib.hid k3
      clear k1 k2 k3
      go_upto_region 9 with fail
      go_cut [6] from 31 to 60 (fun wv wx => wv = .int .i64 (wt + 1 + mm) ∧ ∃ v', AdI w w1.heap.size xs i (i + 1) (.slice a1 i p1) v' wx)
      case first =>
        have HB := Lib.hid (show w.heap.size ≤ (wr.alloc (.cells #[.int .i64 (wt + 1 + mm)] 3)).heap.size by simp; omega)
        have HN := Lib.hid (new_int w.heap.size wr hws (wt + 1 + mm))
        rcases HI.out.owv.2 with ⟨he, h0⟩ | ⟨g, cap, cur, he, hr⟩
        · injection he with he1 he2 he3
          subst he1 he3
          have hi00 : i = 0 := by rw [wL_len] at h0; exact h0
          have HW0 : Hid ((wL xs i).map (Value.int .i64) = []) := by
            show _ = _
            rw [hi00]
            rfl
          have hnew : (wr.alloc (.cells #[.int .i64 (wt + 1 + mm)] 3)).ownsRow w.heap.size 3 1 (.slice (some ⟨wr.heap.size, 0, none⟩) 1 1) (1 + i) ([.int .i64 (wN xs (i + 1))] ++ (wL xs i).map (Value.int .i64)) := by
            rw [HW0.out, HX2.out, hi00]
            exact HN.out
          have hnx2 := HI.out.stepW (World.grownBy.refl _ _) hnew
          rw [World.setCell_alloc_past _ _ _ _ hbl] at hnx2
          have HNX := Lib.hid hnx2
          have HI1 := Lib.hid (show 1 + i = 1 by omega)
          have hle1 : 1 + i ≤ 1 := by omega
          have hle2 : i ≤ 0 := by omega
          have hle3 : (i : Int) ≤ 0 := by omega
          clear h0 hi00 he2 hnew hnx2
          go_wp2
          go_meet
          refine ⟨rfl, .slice (some ⟨wr.heap.size, 0, none⟩) 1 1, ?_⟩
          rw [HI1.out]
          exact HNX.out
        · injection he with he1 he2 he3
          subst he1
          clear hr he2 he3
          have HCE := Lib.hid (World.ownsRow.cells (HI.out.owv.alloc (.cells #[.int .i64 (wt + 1 + mm)] 3)) (g := g) rfl)
          have HLL : Hid (((wL xs i).map (Value.int .i64)).length = i * 1) := by
            show _ = _
            rw [List.length_map, wL_len, Nat.mul_one]
          go_wp2_with (at_builtin; go_must (refine wpList_append_own_at _ rfl (.tmp 46) (.tmp 48) 24 rfl w.heap.size 3 i0 (.int .i64 0) 1 8 Try.underlying24 hi hz0 hz1 hz2 rfl (by decide) _ _ _ rfl HN.out ⟨g, 0, none⟩ i p2 ((wL xs i).map (Value.int .i64)) rfl HLL.out HCE.out (by simp [Value.oneCell']) K1.out K2.out HB.out ?_); go_must (intro v' w3 hown' hgrow _ hat); go_must (have HNX := Lib.hid (HI.out.stepW hgrow (by rw [HX2.out]; exact hown'))); go_must (have hbx3 := (HI.out.alloc (.cells #[.int .i64 (wt + 1 + mm)] 3)).bx.grown hgrow (fun e => by have e2 := Option.some.inj e; change wr.heap.size = w1.heap.size at e2; omega)); go_must (have g4 : w3.cell? ⟨w1.heap.size, 4, none⟩ = some (.slice (some ⟨g, 0, none⟩) i p2) := hbx3.cell 4); go_must (have j4 : w3.frozen? ⟨w1.heap.size, 4, none⟩ = false := hbx3.frozen 4); go_must (obtain ⟨va, vc, hva⟩ := ownN_len HNX.out.owv); go_must (subst hva); go_must (clear hown' hgrow hat hbx3))
          go_meet
          exact ⟨rfl, _, HNX.out⟩
      case rest =>
        obtain ⟨rfl, v2, hJ⟩ := hcut
        have HJ := Lib.hid hJ
        have hwc := hJ.below.size
        have hbc := hJ.bx.lt
        have q3 : wc.cell? ⟨w1.heap.size, 3, none⟩ = some (.slice a1 i p1) := hJ.bx.cell 3
        have f3 : wc.frozen? ⟨w1.heap.size, 3, none⟩ = false := hJ.bx.frozen 3
        clear hJ
        have hcv : ∀ w : World, (convert 30 9 (.slice (some ⟨w.heap.size, 0, none⟩) 1 1)).run Try.prog (w.alloc (.cells #[.int .u8 (97 + (i : Int))] 5)) = .ok (.string (letB 97 i)) (w.alloc (.cells #[.int .u8 (97 + (i : Int))] 5)) := fun w => conv_one 97 i w
        have HB := Lib.hid (show w.heap.size ≤ ((wc.alloc (.cells #[.int .u8 (97 + (i : Int))] 5)).alloc (.cells #[.string (letB 97 i)] 9)).heap.size by simp; omega)
        have HN := Lib.hid (new_str w.heap.size (wc.alloc (.cells #[.int .u8 (97 + (i : Int))] 5)) (wc.heap.size + 1) (by simp) (by omega) (letB 97 i))
        rcases HJ.out.osv.2 with ⟨he, h0⟩ | ⟨g, cap, cur, he, hr⟩
        · injection he with he1 he2 he3
          subst he1 he3
          have hi00 : i = 0 := by rw [sL_len] at h0; exact h0
          have hnew : ((wc.alloc (.cells #[.int .u8 (97 + (i : Int))] 5)).alloc (.cells #[.string (letB 97 i)] 9)).ownsRow w.heap.size 9 1 (.slice (some ⟨wc.heap.size + 1, 0, none⟩) 1 1) (1 + i) ([.string (letB 97 i)] ++ (sL i).map Value.string) := by
            have hh := HN.out
            rw [show (sL i).map Value.string = [] by rw [hi00]; rfl, show 1 + i = 1 by omega]
            exact hh
          have hnx2 := HJ.out.stepS (World.grownBy.refl _ _) hnew
          rw [World.setCell_alloc_past _ _ _ _ (by simp; omega), World.setCell_alloc_past _ _ _ _ hbc] at hnx2
          have HNX := Lib.hid hnx2
          have HI1 := Lib.hid (show 1 + i = 1 by omega)
          have hle1 : 1 + i ≤ 1 := by omega
          have hle2 : i ≤ 0 := by omega
          have hle3 : (i : Int) ≤ 0 := by omega
          clear h0 hi00 he2 hnew hnx2
          go_wp2
          go_roundw
          case rel =>
            refine ⟨i + 1, wt + 1 + mm, .slice (some ⟨wc.heap.size + 1, 0, none⟩) 1 1, v2, by go_num, rfl, HX2.out.symm, by omega, ?_⟩
            rw [HI1.out]
            exact HNX.out
          case measure => simp [intOf]; omega
        · injection he with he1 he2 he3
          subst he1
          clear hr he2 he3
          have HCE := Lib.hid (World.ownsRow.cells ((HJ.out.osv.alloc (.cells #[.int .u8 (97 + (i : Int))] 5)).alloc (.cells #[.string (letB 97 i)] 9)) (g := g) rfl)
          have HLL : Hid (((sL i).map Value.string).length = i * 1) := by
            show _ = _
            rw [List.length_map, sL_len, Nat.mul_one]
          go_wp2_with (at_builtin; go_must (refine wpList_append_own_at _ rfl (.tmp 56) (.tmp 58) 23 rfl w.heap.size 9 j0 (.string ⟨#[]⟩) 1 16 Try.underlying23 hj0 hy0 hy1 hy2 rfl (by decide) _ _ _ rfl HN.out ⟨g, 0, none⟩ i p1 ((sL i).map Value.string) rfl HLL.out HCE.out (by simp [Value.oneCell']) K1.out K3.out HB.out ?_); go_must (intro v' w3 hown' hgrow _ hat); go_must (have HNX := Lib.hid (HJ.out.stepS hgrow hown')); go_must (have hbx3 := ((HJ.out.alloc (.cells #[.int .u8 (97 + (i : Int))] 5)).alloc (.cells #[.string (letB 97 i)] 9)).bx.grown hgrow (fun e => by have e2 := Option.some.inj e; change wc.heap.size + 1 = w1.heap.size at e2; omega)); go_must (have g3 : w3.cell? ⟨w1.heap.size, 3, none⟩ = some (.slice (some ⟨g, 0, none⟩) i p1) := hbx3.cell 3); go_must (have j3 : w3.frozen? ⟨w1.heap.size, 3, none⟩ = false := hbx3.frozen 3); go_must (obtain ⟨va, vc, hva⟩ := ownT_len HNX.out.osv); go_must (subst hva); go_must (clear hown' hgrow hat hbx3))
          go_roundw
          case rel => exact ⟨i + 1, wt + 1 + mm, _, _, by go_num, rfl, HX2.out.symm, by omega, HNX.out⟩
          case measure => simp [intOf]; omega
    · obtain rfl : i = k := by omega
      have hltI : ¬ (i : Int) < (i : Int) := by omega
      have hcx := fun o => HI.out.bx.cell o
      have HQ : Hid (DefQ wr (adsD xs i) (.slice a1 i p1) (.slice a2 i p2) (.slice none 0 0)) :=
        ⟨⟨HI.out.osv.rd, HI.out.owv.rd, RdP.nil _ _ _, (show (sL i).length ≤ 100000 by rw [sL_len]; omega), (show (wL xs i).length ≤ 100000 by rw [wL_len]; omega), (show 0 ≤ 100000 by decide)⟩, ⟨show (-9223372036854775808 : Int) ≤ 1 by decide, show (1 : Int) ≤ 9223372036854775807 by decide⟩, fun j => wL_le xs i j (by omega)⟩
      have HRO := Lib.hid (row_ads xs i N hk1 (by omega) hN1 hN2)
      have HMY := Lib.hid (may_ads xs i hk1 (by omega))
      generalize hSS : sumD [] N 0 (wL xs i) = SS at *
      have HSS := Lib.hid hSS
      clear hSS
      go_wp2_with fail
      refine (signs_any _ (adsD xs i) _ _ _ HQ.out (N : Int)).mono ?_
      rintro e w4 ⟨rfl, hb4⟩
      have HX4 := Lib.hid (HI.out.bx.below hb4 hbl)
      have hcx4 := fun o => HX4.out.cell o
      clear hcx
      generalize hTT : signsT (adsD xs i) (N : Int) = TT
      generalize hOK : signsB (adsD xs i) (N : Int) = OK
      have HTT := Lib.hid hTT
      have HOK := Lib.hid hOK
      clear hTT hOK
      go_wp2_with fail
      refine (may_any _ (adsD xs i) _ _ _ (HQ.out.below hb4).toR).mono ?_
      rintro e w5 ⟨rfl, hb5⟩
      rw [HMY.out]
      have HX5 := Lib.hid (HX4.out.below hb5 (Nat.lt_of_lt_of_le hbl hb4.size))
      have HB5 := Lib.hid (bseq (bseq HI.out.below hb4 (Nat.le_refl _)) hb5 (Nat.le_refl _))
      have HQ5 := Lib.hid ((HQ.out.below hb4).below hb5)
      clear hcx4 hb4 hb5
      have r3 : w5.cell? ⟨w1.heap.size, 3, none⟩ = some (.slice a1 i p1) := HX5.out.cell 3
      have r4 : w5.cell? ⟨w1.heap.size, 4, none⟩ = some (.slice a2 i p2) := HX5.out.cell 4
      go_wp2
      have HST : Hid (AdW xs i SS 0 N ⟨#[]⟩) := by
        have := adw_start xs i N
        rw [HSS.out] at this
        exact this
      have hK1 : (1 : Int) ≤ (i : Int) := by omega
      have HRD := Lib.hid (HQ5.out.toR.syms)
      have HRI := Lib.hid (HQ5.out.toR.wts)
      go_loop [10, 11, 12] (fun lv wv iv => ∃ (j L : Nat) (W : ByteArray), iv = .int .i64 j ∧ lv = .int .i64 L ∧ wv = .string W ∧ j ≤ i ∧ L ≤ N ∧ AdW xs i SS j L W) (fun _ _ iv => i - (intOf iv).toNat)
      case atStart => exact ⟨0, N, ⟨#[]⟩, rfl, rfl, rfl, Nat.zero_le _, Nat.le_refl _, HST.out⟩
      case round =>
        obtain ⟨j, L, W, rfl, rfl, rfl, hji, hLN, hA⟩ := hrel
        have HA := Lib.hid hA
        clear hA
        by_cases hlj : j < i
        · have hljI : (j : Int) < (i : Int) := by omega
          have hj0 : (0 : Int) ≤ (j : Int) := by omega
          obtain ⟨x1, y1, hv1, _, hs1⟩ := HRD.out
          rw [show (adsD xs i).syms.length = i from sL_len i] at hv1
          obtain ⟨g1, o1, hg1, _, hs1c⟩ := hs1 (by rw [show (adsD xs i).syms.length = i from sL_len i]; omega)
          injection hv1 with hv1 _ _
          subst hg1
          subst hv1
          have u3 := hs1c j (by rw [show (adsD xs i).syms = sL i from rfl, sL_len]; exact hlj)
          have HSJ : Hid (symAt (sL i) (j : Int) = (adsD xs i).syms[j]'(by rw [show (adsD xs i).syms = sL i from rfl, sL_len]; exact hlj)) := by
            show _ = _
            unfold symAt
            rw [Int.toNat_natCast, List.getD_eq_getElem?_getD, List.getElem?_eq_getElem (by rw [sL_len]; exact hlj)]
            rfl
          rw [← HSJ.out] at u3
          obtain ⟨x2, y2, hv2, _, hs2⟩ := HRI.out
          rw [show (adsD xs i).wts.length = i from wL_len xs i] at hv2 hs2
          obtain ⟨g2, o2, hg2, _, hs2c⟩ := hs2 (by omega)
          injection hv2 with hv2 _ _
          subst hg2
          subst hv2
          have u4 := hs2c j hlj
          obtain ⟨Y, hY, hY0, hYb⟩ : ∃ Y : Nat, nth (wL xs i) j = (Y : Int) ∧ 0 < Y ∧ Y ≤ 12000 := by
            have hb1 := wL_at xs i j hlj
            have hb2 := wN_bound xs (i - j)
            exact ⟨(nth (wL xs i) j).toNat, by omega, by omega, by omega⟩
          rw [show nth (adsD xs i).wts j = (Y : Int) from hY] at u4
          have HY := Lib.hid hY
          have hYI : (1 : Int) ≤ (Y : Int) := by omega
          have HSZ : Hid (∀ (L' : Nat) (W' : ByteArray), AdX xs i SS j Y L' W' → W'.size ≤ 61) := fun L' W' h => by
            rcases h with ⟨l, t, _, _, _, _, _, h5, _, h7⟩ | ⟨_, h⟩
            · omega
            · omega
          have hG1 := sL_one i j hlj
          generalize hGG : symAt (sL i) (j : Int) = G at *
          have hGs : G.size ≤ 1 := by omega
          clear hG1
          have HGG := Lib.hid hGG
          clear hs1 hs2 hs1c hs2c hY hGG
          go_wp2
          go_loop [10, 11] (fun lv wv => ∃ (L' : Nat) (W' : ByteArray), lv = .int .i64 L' ∧ wv = .string W' ∧ L' ≤ N ∧ AdX xs i SS j Y L' W') (fun lv _ => (intOf lv).toNat)
          case atStart => exact ⟨L, W, rfl, rfl, hLN, adx_start HA.out⟩
          case round =>
            obtain ⟨L', W', rfl, rfl, hLN', hX⟩ := hrel
            have hsz := HSZ.out L' W' hX
            have HX := Lib.hid hX
            clear hX
            by_cases q1 : Y ≤ L'
            · have q1I : (Y : Int) ≤ (L' : Int) := by omega
              by_cases q2 : W'.size ≤ 60
              · have q2I : (W'.size : Int) ≤ 60 := by omega
                have q2d : decide ((W'.size : Int) ≤ 60) = true := decide_eq_true q2I
                have HNX : Hid (AdX xs i SS j Y (L' - Y) (W' ++ G)) := by
                  have := adx_step hlj HX.out q1 q2
                  rw [HGG.out] at this
                  exact this
                go_wp2
                refine ⟨⟨L' - Y, W' ++ G, by go_num, rfl, by omega, HNX.out⟩, ?_⟩
                simp [intOf]
                omega
              · have q2I : ¬ (W'.size : Int) ≤ 60 := by omega
                have q2d : decide ((W'.size : Int) ≤ 60) = false := decide_eq_false q2I
                have HNX := Lib.hid (adx_out hlj HY.out hY0 HX.out (fun hh => q2 hh.2))
                go_wp2
                go_round
                case rel => exact ⟨.int .i64 L', .string W', .int .i64 ((j + 1 : Nat) : Int), ⟨j + 1, rfl, L', rfl, W', rfl, by omega, hLN', HNX.out⟩, rfl, rfl, by go_num⟩
                case measure => simp [intOf]; omega
            · have q1I : ¬ (Y : Int) ≤ (L' : Int) := by omega
              have q1d : decide ((Y : Int) ≤ (L' : Int)) = false := decide_eq_false q1I
              have HNX := Lib.hid (adx_out hlj HY.out hY0 HX.out (fun hh => q1 hh.1))
              go_wp2
              go_round
              case rel => exact ⟨.int .i64 L', .string W', .int .i64 ((j + 1 : Nat) : Int), ⟨j + 1, rfl, L', rfl, W', rfl, by omega, hLN', HNX.out⟩, rfl, rfl, by go_num⟩
              case measure => simp [intOf]; omega
        · obtain rfl : j = i := by omega
          have hljI : ¬ (j : Int) < (j : Int) := by omega
          rcases adw_end (N := N) HA.out HRO.out with ⟨hend, ho, ht⟩ | ⟨hL0, hWs, ho, ht⟩
          · have HOK2 : Hid (OK = false) := HOK.out.symm.trans ho
            have HTT2 : Hid (TT = ⟨#[]⟩) := HTT.out.symm.trans ht
            have hok := HOK2.out
            have htt := HTT2.out
            subst hok htt
            by_cases hL : 0 < L
            · have hLI : (0 : Int) < (L : Int) := by omega
              have hLd : decide ((0 : Int) < (L : Int)) = true := decide_eq_true hLI
              go_wp2_with (go_at_call 9; (with_reducible refine (awake_any _).mono ?_); rintro e w6 ⟨rfl, hb6⟩)
              go_ret
              exact ⟨rfl, bseq HB5.out hb6 (Nat.le_refl _)⟩
            · have hLI : ¬ (0 : Int) < (L : Int) := by omega
              have hLd : decide ((0 : Int) < (L : Int)) = false := decide_eq_false hLI
              have hWI : (60 : Int) < (W.size : Int) := by
                rcases hend with hh | hh
                · exact absurd hh hL
                · omega
              go_wp2_with (go_at_call 9; (with_reducible refine (awake_any _).mono ?_); rintro e w6 ⟨rfl, hb6⟩)
              go_ret
              exact ⟨rfl, bseq HB5.out hb6 (Nat.le_refl _)⟩
          · have HOK2 : Hid (OK = true) := HOK.out.symm.trans ho
            have HTT2 : Hid (TT = W) := HTT.out.symm.trans ht
            have hok := HOK2.out
            have htt := HTT2.out
            subst hok htt
            have hLI : ¬ (0 : Int) < (L : Int) := by omega
            have hLd : decide ((0 : Int) < (L : Int)) = false := decide_eq_false hLI
            have hWI : ¬ (60 : Int) < (TT.size : Int) := by omega
            have hWd : decide ((60 : Int) < (TT.size : Int)) = false := decide_eq_false hWI
            go_wp2_with (go_at_call 9; (with_reducible refine (awake_any _).mono ?_); rintro e w6 ⟨rfl, hb6⟩)
            go_ret
            exact ⟨rfl, bseq HB5.out hb6 (Nat.le_refl _)⟩
end Go.Proofs.Ytkbodhhhphodiaa
