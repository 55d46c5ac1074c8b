
import Derived.Test.YtfggpenfdfklkaaGreatRxC
import Derived.BigQuiet
namespace Go.Proofs.YtfggpenfdfklkaaGreat
open Go.RowKit
/-! RulesLimits: the walk. -/
theorem spB_at {g M i : Nat} {w : World} (h : OwnB g M (fun j => if j < i then 32 else 0) w) (hi : i < M) : OwnB g M (fun j => if j < i + 1 then 32 else 0) (w.setCell ⟨g, i, none⟩ (.int .u8 32)) :=
  h.set (x := 32) hi (by simp) (fun j _ hne => by
    by_cases hj : j < i
    · simp only [if_pos hj, if_pos (show j < i + 1 by omega)]
    · simp only [if_neg hj, if_neg (show ¬ j < i + 1 by omega)])
theorem spB_new (w : World) (M : Nat) : OwnB w.heap.size M (fun j => if j < 0 then 32 else 0) (w.alloc (.cells (madeCells #[.int .u8 0] M) 5)) := by
  have hb := heap_alloc_self w (.cells (madeCells #[.int .u8 0] M) 5)
  refine ⟨fun j hj => ?_, fun j _ => frozen_of_row _ _ j _ _ hb, by simp⟩
  rw [cell_of_row _ _ j _ _ (0, 0) hb, ← Array.getElem?_toList, toList_madeCells_one, List.getElem?_replicate, if_pos hj]
  simp
theorem spB_rd {g M : Nat} {w : World} (h : OwnB g M (fun j => if j < M then 32 else 0) w) : Rd .u8 w (.slice (some ⟨g, 0, none⟩) M M) (List.replicate M 32) := by
  have h2 : OwnB g (List.replicate M (32 : Int)).length (fun j => if j < M then 32 else 0) w := by rw [List.length_replicate]; exact h
  have h3 := h2.rd (cap := M) (by rw [List.length_replicate]; exact Nat.le_refl _) (fun j hj => by
    rw [List.length_replicate] at hj
    unfold nth
    rw [List.getD_eq_getElem?_getD, List.getElem?_replicate, if_pos hj, if_pos hj]
    rfl)
  rw [List.length_replicate] at h3
  exact h3
set_option maxRecDepth 100000 in
set_option maxHeartbeats 800000 in
theorem limits_out (w : World) (n m : Int) (a : Bool) (h : n < 0 ∨ 600 < n ∨ m < 65000 ∨ 66000 < m) :
    Calls Tryz.prog 5 #[.int .i64 n, .bool a, .int .i64 m] w fun e w' => e = .returned (.bool true) ∧ Below w.heap.size w w' := by
  by_cases h1 : n < 0
  · go_enter Tryz.func5, Tryz.ntmps5
    go_wp2_with (go_at_call 9; (with_reducible refine (awake4_any _).mono ?_); rintro e w2 ⟨rfl, hb2⟩)
    go_ret
    exact ⟨rfl, hb2⟩
  have d1 : decide (n < 0) = false := decide_eq_false h1
  by_cases h2 : 600 < n
  · go_enter Tryz.func5, Tryz.ntmps5
    go_wp2_with (go_at_call 9; (with_reducible refine (awake4_any _).mono ?_); rintro e w2 ⟨rfl, hb2⟩)
    go_ret
    exact ⟨rfl, hb2⟩
  have d2 : decide (600 < n) = false := decide_eq_false h2
  by_cases h3 : m < 65000
  · go_enter Tryz.func5, Tryz.ntmps5
    go_wp2_with (go_at_call 9; (with_reducible refine (awake4_any _).mono ?_); rintro e w2 ⟨rfl, hb2⟩)
    go_ret
    exact ⟨rfl, hb2⟩
  have d3 : decide (m < 65000) = false := decide_eq_false h3
  have h4 : 66000 < m := by omega
  go_enter Tryz.func5, Tryz.ntmps5
  go_wp2_with (go_at_call 9; (with_reducible refine (awake4_any _).mono ?_); rintro e w2 ⟨rfl, hb2⟩)
  go_ret
  exact ⟨rfl, hb2⟩
theorem bytes_in (W : World) (s : ByteArray) : ∃ cap wb, (convert 9 22 (.string s)).run Tryz.prog W = .ok (.slice (some ⟨W.heap.size, 0, none⟩) s.size cap) wb ∧ Rd .u8 wb (.slice (some ⟨W.heap.size, 0, none⟩) s.size cap) (nums s) ∧ Below W.heap.size W wb :=
  ⟨_, _, run_bytes_of_string (P := Tryz.prog) W 9 22 5 s Tryz.underlying9 Tryz.underlying22 Tryz.underlying5, rd_bytes W s, ((Below.refl _ W).drew).alloc (Nat.le_refl _) _⟩
set_option maxRecDepth 100000 in
set_option maxHeartbeats 6400000 in
theorem limits_main (w : World) (N M : Nat) (a : Bool) (hN : N ≤ 600) (hM1 : 65000 ≤ M) (hM2 : M ≤ 66000) :
    Calls Tryz.prog 5 #[.int .i64 (N : Int), .bool a, .int .i64 (M : Int)] w fun e w' => e = .returned (.bool true) ∧ Below w.heap.size w w' := by
  obtain ⟨i0, hi, hz0, hz1, hz2⟩ := info_parts info_u8z
  have d1 : decide ((N : Int) < 0) = false := decide_eq_false (by omega)
  have d2 : decide (600 < (N : Int)) = false := decide_eq_false (by omega)
  have d3 : decide ((M : Int) < 65000) = false := decide_eq_false (by omega)
  have d4 : decide (66000 < (M : Int)) = false := decide_eq_false (by omega)
  have HSZ := Lib.hid (txl_size a N)
  have HRS := Lib.hid (rules_txl a N)
  obtain ⟨cap, wb, hcv, hrd, hb0⟩ := bytes_in w (txl a N)
  have HA := Lib.hid (rsheet_any (nums (txl a N)) _ wb hrd (by rw [nums_length, txl_size]; omega))
  rw [str_nums] at HA
  have HB0 := Lib.hid hb0
  have HTS := Lib.hid (fun i => txl_succ a i)
  have HTZ := Lib.hid (fun i => txl_size a i)
  generalize rulesS (ndsS (toks (readS (txl a N)))) = RS at *
  have HCV := Lib.hid hcv
  clear hcv hrd hb0
  go_enter Tryz.func5, Tryz.ntmps5
  go_wp2
  go_loopw [7, 8] (fun tv iv wr => ∃ (i : Nat) (t : ByteArray), i ≤ N ∧ iv = .int .i64 i ∧ tv = .string t ∧ t = txl a i ∧ wr = w) (fun _ iv _ => N - (intOf iv).toNat)
  case atStart => exact ⟨0, _, Nat.zero_le _, rfl, rfl, rfl, rfl⟩
  case round =>
    obtain ⟨i, t, hi5, rfl, rfl, ht, hwr⟩ := hrel
    have HT := Lib.hid ht
    have hts : t.size ≤ 1800 := by rw [ht, HTZ.out]; omega
    have HW := Lib.hid hwr
    clear ht hwr
    by_cases hlt : i < N
    · have HT1 := Lib.hid (HTS.out i)
      cases a
      · go_wp2
        go_roundw
        case rel => exact ⟨i + 1, _, by omega, by go_num, rfl, by rw [HT1.out, ← HT.out]; rfl, HW.out⟩
        case measure => simp [intOf]; omega
      · go_wp2
        go_roundw
        case rel => exact ⟨i + 1, _, by omega, by go_num, rfl, by rw [HT1.out, ← HT.out]; rfl, HW.out⟩
        case measure => simp [intOf]; omega
    · obtain rfl : i = N := by omega
      have hw := HW.out
      subst hw
      have hcv := HCV.out
      rw [← HT.out] at hcv HA
      clear HW
      go_upto_region 11 with (go_at_call 10; refine HA.out.mono ?_; intro e w1 hq; unfold SheetP at hq; obtain ⟨⟨v1, rfl, hr1⟩, hb1⟩ := hq; obtain ⟨ra, rc, hus⟩ := hr1.sl; subst hus; have HB1 := Lib.hid (below_seq HB0.out hb1))
      have hmk := run_make (P := Tryz.prog) w1 22 5 i0 _ Tryz.underlying22 hi hz0 .i64 .i64 (M : Int) (M : Int) (by omega) (by omega) (by rw [hz2]; omega) (by omega)
      rw [hz1, Nat.mul_one, Int.toNat_natCast] at hmk
      have hown := spB_new w1 M
      have hbm : Below w1.heap.size w1 (w1.alloc (.cells (madeCells #[.int .u8 0] M) 5)) := (Below.refl _ _).alloc (Nat.le_refl _) _
      have hmk2 : (Instr.makeSlice 22 (.int .i64 (M : Int)) (.int .i64 (M : Int))).run Tryz.prog w1 = .ok (.slice (some ⟨w1.heap.size, 0, none⟩) M M) (w1.alloc (.cells (madeCells #[.int .u8 0] M) 5)) := hmk
      generalize (w1.alloc (.cells (madeCells #[.int .u8 0] M) 5)) = w2 at *
      clear hmk hr1
      go_wp2
      go_loopw [12] (fun jv wr => ∃ j : Nat, j ≤ M ∧ jv = .int .i64 j ∧ OwnB w1.heap.size M (fun q => if q < j then 32 else 0) wr ∧ Below w1.heap.size w1 wr) (fun jv _ => M - (intOf jv).toNat)
      case atStart => exact ⟨0, Nat.zero_le _, rfl, hown, hbm⟩
      case round =>
        obtain ⟨j, hj, rfl, hO, hB⟩ := hrel
        have HO := Lib.hid hO
        have HB := Lib.hid hB
        clear hO hB hown hbm
        by_cases hlt : j < M
        · have y0 := HO.out.1 j hlt
          have y1 := HO.out.2.1 j hlt
          have j1 : (0 : Int) ≤ (j : Int) := by omega
          have j2 : (j : Int) < (M : Int) := by omega
          go_wp2
          go_roundw
          case rel => exact ⟨j + 1, by omega, by go_num, spB_at HO.out hlt, HB.out.setCell (Nat.le_refl _) _⟩
          case measure => simp [intOf]; omega
        · obtain rfl : j = M := by omega
          have HRD := Lib.hid (spB_rd HO.out)
          have HBE := Lib.hid (below_seq HB1.out HB.out)
          have HEN : Hid (shE RS = (if i ≤ 500 then 0 else 3) ∧ (shR RS).length = (if i ≤ 500 then i else 0)) := by
            show _ ∧ _
            unfold shE shR
            rw [HRS.out]
            by_cases h : i ≤ 500
            · simp only [if_pos h]
              exact ⟨trivial, HRS.out⟩
            · simp only [if_neg h]
              exact ⟨trivial, rfl⟩
          obtain ⟨E, hE⟩ : ∃ E, shE RS = E := ⟨_, rfl⟩
          obtain ⟨K, hK⟩ : ∃ K, (shR RS).length = K := ⟨_, rfl⟩
          rw [hE, hK] at HEN ⊢
          clear hE hK
          by_cases hM : j ≤ 65536
          · have e1 : ¬ (65536 : Int) < (j : Int) := by omega
            have e2 : decide ((65536 : Int) < (j : Int)) = false := decide_eq_false e1
            have e3 : (j : Int) ≤ 65536 := by omega
            have HSP := Lib.hid (rules_sp (j - 1))
            have HC := Lib.hid (rsheet_any (List.replicate j 32) (.slice (some ⟨w1.heap.size, 0, none⟩) j j) wr HRD.out (by rw [List.length_replicate]; exact hM))
            rw [show j - 1 + 1 = j by omega] at HSP
            rw [HSP.out] at HC
            have HSE : Hid (shE [] = 0 ∧ shR [] = []) := ⟨rfl, rfl⟩
            clear HSP
            by_cases hN5 : i ≤ 500
            · have hen := HEN.out
              rw [if_pos hN5, if_pos hN5] at hen
              obtain ⟨rfl, rfl⟩ := hen
              have f1 : ¬ (500 : Int) < (K : Int) := by omega
              have f2 : decide ((500 : Int) < (K : Int)) = false := decide_eq_false f1
              go_wp2_with (first | (go_at_call 10; refine HC.out.mono ?_; intro e w3 hq; unfold SheetP at hq; rw [HSE.out.1, HSE.out.2] at hq; obtain ⟨⟨v3, rfl, hr3⟩, hb3⟩ := hq; obtain ⟨rb, rd, hus3⟩ := hr3.sl; rw [List.length_nil] at hus3; subst hus3; have HB3 := Lib.hid (below_seq HBE.out hb3)) | (go_at_call 9; (with_reducible refine (awake4_any _).mono ?_); rintro e w9 ⟨rfl, hb9⟩))
              go_ret
              exact ⟨by simp, below_seq HB3.out hb9⟩
            · have hen := HEN.out
              rw [if_neg hN5, if_neg hN5] at hen
              obtain ⟨rfl, rfl⟩ := hen
              have f1 : (500 : Int) < (i : Int) := by omega
              go_wp2_with (first | (go_at_call 10; refine HC.out.mono ?_; intro e w3 hq; unfold SheetP at hq; rw [HSE.out.1, HSE.out.2] at hq; obtain ⟨⟨v3, rfl, hr3⟩, hb3⟩ := hq; obtain ⟨rb, rd, hus3⟩ := hr3.sl; rw [List.length_nil] at hus3; subst hus3; have HB3 := Lib.hid (below_seq HBE.out hb3)) | (go_at_call 9; (with_reducible refine (awake4_any _).mono ?_); rintro e w9 ⟨rfl, hb9⟩))
              go_ret
              exact ⟨rfl, below_seq HB3.out hb9⟩
          · have e1 : (65536 : Int) < (j : Int) := by omega
            have e3 : ¬ (j : Int) ≤ 65536 := by omega
            have e2 : decide ((j : Int) ≤ 65536) = false := decide_eq_false e3
            have HC := Lib.hid (rsheet_big (some ⟨w1.heap.size, 0, none⟩) j j wr (by omega))
            by_cases hN5 : i ≤ 500
            · have hen := HEN.out
              rw [if_pos hN5, if_pos hN5] at hen
              obtain ⟨rfl, rfl⟩ := hen
              have f1 : ¬ (500 : Int) < (K : Int) := by omega
              have f2 : decide ((500 : Int) < (K : Int)) = false := decide_eq_false f1
              go_wp2_with (first | (go_at_call 10; refine HC.out.mono ?_; rintro e w3 ⟨rfl, rfl⟩) | (go_at_call 9; (with_reducible refine (awake4_any _).mono ?_); rintro e w9 ⟨rfl, hb9⟩))
              go_ret
              exact ⟨by simp, below_seq HBE.out hb9⟩
            · have hen := HEN.out
              rw [if_neg hN5, if_neg hN5] at hen
              obtain ⟨rfl, rfl⟩ := hen
              have f1 : (500 : Int) < (i : Int) := by omega
              go_wp2_with (first | (go_at_call 10; refine HC.out.mono ?_; rintro e w3 ⟨rfl, rfl⟩) | (go_at_call 9; (with_reducible refine (awake4_any _).mono ?_); rintro e w9 ⟨rfl, hb9⟩))
              go_ret
              exact ⟨rfl, below_seq HBE.out hb9⟩
theorem RulesLimits_any (w : World) (n : Int) (_wn : (Lit.int .i64 n).wf = true) (a : Bool) (m : Int) (_wm : (Lit.int .i64 m).wf = true) :
    Calls Tryz.prog 5 #[.int .i64 n, .bool a, .int .i64 m] w fun e w' => e = .returned (.bool true) ∧ Below w.heap.size w w' := by
  by_cases h : n < 0 ∨ 600 < n ∨ m < 65000 ∨ 66000 < m
  · exact limits_out w n m a h
  · obtain ⟨N, rfl⟩ : ∃ N : Nat, n = (N : Int) := ⟨n.toNat, by omega⟩
    obtain ⟨M, rfl⟩ : ∃ M : Nat, m = (M : Int) := ⟨m.toNat, by omega⟩
    exact limits_main w N M a (by omega) (by omega) (by omega)
end Go.Proofs.YtfggpenfdfklkaaGreat
