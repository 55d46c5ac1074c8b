
import Derived.Test.YtkbodhhhphodiaaSyDp
import Derived.Deep.CutBlock
import Derived.Deep.DeepMust
namespace Go.Proofs.Ytkbodhhhphodiaa
open Go.RowKit
set_option maxRecDepth 100000 in
set_option maxHeartbeats 3200000 in
theorem decodes_alp (K N : Nat) (w : World) (hk1 : 2 ≤ K) (hk2 : K ≤ 26) (hN : N ≤ 2147483648) (hN0 : 1 ≤ N) (T : ByteArray) (L : List Int) (HT : Hid (signsT (madeD alT (lets 97 K)) (N : Int) = T ∧ signsB (madeD alT (lets 97 K)) (N : Int) = true))
    (HD : Hid (Dig 97 K T L)) (HV : Hid (decD K 1 0 L = N)) (hL : 1 ≤ L.length) (hL2 : L.length ≤ 60) :
    Calls Try.prog 3 #[.int .i64 N, .int .i64 K, .bool true] w fun e w' => e = .returned (.bool true) ∧ Below w.heap.size w w' := by
  obtain ⟨i0, hi, hz0, hz1, hz2⟩ := info_parts info_str
  have c1 : ¬ (K : Int) < 2 := by omega
  have c2 : ¬ (26 : Int) < (K : Int) := by omega
  have c3 : ¬ (N : Int) < 0 := by omega
  have c4 : ¬ (2147483648 : Int) < (N : Int) := by omega
  have d1 : decide ((K : Int) < 2) = false := decide_eq_false c1
  have d2 : decide ((26 : Int) < (K : Int)) = false := decide_eq_false c2
  have d3 : decide ((N : Int) < 0) = false := decide_eq_false c3
  have d4 : decide ((2147483648 : Int) < (N : Int)) = false := decide_eq_false c4
  have c5 : ¬ (N : Int) = 0 := by omega
  have d5 : ((N : Int) == 0) = false := beq_eq_false_iff_ne.2 (by omega)
  go_enter Try.func3, Try.ntmps3
  go_wp2_with fail
  refine (made_any _ _ _ _ _).mono ?_
  rintro e w1 ⟨rfl, hb1⟩
  have hz := hb1.size
  go_wp2_with fail
  go_loopw [8] (fun iv wr => ∃ (j : Nat) (sv : Value), iv = .int .i64 j ∧ j ≤ K ∧ SzI w w1.heap.size alT 1 sv (lets 97 j) wr) (fun iv _ => K - (intOf iv).toNat)
  case atStart => exact ⟨0, _, rfl, Nat.zero_le _, ⟨Bx.new _ _, OwnT.nil _ _, hb1.alloc hz _, hz⟩⟩
  case round =>
    obtain ⟨j, sv, rfl, hj, hI⟩ := hrel
    have hws := hI.below.size
    obtain ⟨sa, sc, rfl⟩ := ownT_len hI.own
    rw [lets_len] at hI
    have HI := Lib.hid hI
    have HOW : Hid (wr.ownsRow w.heap.size 9 1 (.slice sa j sc) j ((lets 97 j).map Value.string)) := by
      have hh := hI.own
      unfold OwnT at hh
      rw [lets_len] at hh
      exact hh
    have e3 : wr.cell? ⟨w1.heap.size, 3, none⟩ = some (.slice sa j sc) := hI.bx.cell 3
    have hbl := hI.bx.lt
    clear hI
    by_cases hlt : j < K
    · have hltI : (j : Int) < (K : Int) := by omega
      have hcv : ∀ w : World, (convert 30 9 (.slice (some ⟨w.heap.size, 0, none⟩) 1 1)).run Try.prog (w.alloc (.cells #[.int .u8 (97 + (j : Int))] 5)) = .ok (.string (letB 97 j)) (w.alloc (.cells #[.int .u8 (97 + (j : Int))] 5)) := fun w => conv_one 97 j w
      go_wp2_with (at_builtin; refine wpList_append_own_at _ rfl _ _ 23 rfl w.heap.size 9 i0 (.string ⟨#[]⟩) 1 16 Try.underlying23 hi hz0 hz1 hz2 rfl (by decide) _ _ _ rfl ((HOW.out.alloc _).alloc _) ⟨wr.heap.size + 1, 0, none⟩ 1 1 [.string (letB 97 j)] rfl rfl (by have := cell_one_new (wr.alloc (.cells #[.int .u8 (97 + (j : Int))] 5)) (.string (letB 97 j)) 9; simpa using this) (by simp [Value.oneCell']) (by unfold maxLen; omega) (by omega) (by simp; omega) ?_; intro v' w3 hown' hgrow _ hat; have hbx3 := ((HI.out.alloc _).alloc _).bx.grown hgrow (row_ne HI.out.own HI.out.bx (by decide)); have g3 : w3.cell? ⟨w1.heap.size, 3, none⟩ = some (.slice sa j sc) := hbx3.cell 3; have f3 := hbx3.frozen 3; have HNX : Hid (SzI w w1.heap.size alT 1 v' (lets 97 (j + 1)) (w3.setCell ⟨w1.heap.size, 3, none⟩ v')) := (by rw [← lets_snoc]; exact ((HI.out.alloc _).alloc _).step (by rw [lets_len]; exact hown') hgrow); obtain ⟨va, vc, hva⟩ := ownT_len HNX.out.own; rw [lets_len] at hva; subst hva; clear hown' hgrow hat hbx3)
      go_roundw
      case rel => exact ⟨j + 1, _, by go_num, by omega, HNX.out⟩
      case measure => simp [intOf]; omega
    · obtain rfl : j = K := by omega
      have hbx := HI.out.bx
      have hcx := fun o => hbx.cell o
      have HQ : Hid (DefQ wr (madeD alT (lets 97 j)) (.slice sa j sc) (.slice none 0 0) (.slice none 0 0)) := madeQ HI.out.own.rd (by rw [lets_len]; omega)
      clear e3 hbx
      go_wp2_with fail
      refine (signs_any _ (madeD alT (lets 97 j)) _ _ _ HQ.out _).mono ?_
      rintro e w4 ⟨rfl, hb4⟩
      rw [HT.out.1, HT.out.2]
      clear hcx
      have hsz := HD.out.size
      have hsz1 : 1 ≤ T.size := by omega
      have hsz2 : T.size ≤ 60 := by omega
      have HSZ := Lib.hid hsz
      clear hsz
      have z1 : ((T.size : Int) == 0) = false := beq_eq_false_iff_ne.2 (by omega)
      have z2 : ¬ (T.size : Int) = 0 := by omega
      go_wp2
      go_loop [11, 12, 13] (fun vv iv _ => ∃ i V : Nat, iv = .int .i64 i ∧ vv = .int .i64 V ∧ i ≤ T.size ∧ V ≤ N ∧ (V : Int) = decD j 1 0 (L.take i)) (fun _ iv _ => T.size - (intOf iv).toNat)
      case atStart => exact ⟨0, 0, rfl, rfl, Nat.zero_le _, Nat.zero_le _, rfl⟩
      case round =>
        obtain ⟨i, V, rfl, rfl, hiT, hVN, hV⟩ := hrel
        have HVV := Lib.hid hV
        clear hV
        by_cases hiL : i < T.size
        · have hiI : (i : Int) < (T.size : Int) := by omega
          have hi0 : (0 : Int) ≤ (i : Int) := by omega
          obtain ⟨X, hXK, hbX, hst, hle⟩ := HD.out.step (by omega) HV.out hiL HVV.out
          have HST := Lib.hid hst
          have hM : (V : Int) * (j : Int) = ((V * j : Nat) : Int) := by rw [Int.natCast_mul]
          generalize V * j = M at *
          clear hst
          go_wp2
          go_round
          case rel => exact ⟨i + 1, M + (X + 1), by go_num, by go_num, by omega, by omega, HST.out⟩
          case measure => simp [intOf]; omega
        · have hiI : ¬ (i : Int) < (T.size : Int) := by omega
          have hVE : V = N := by
            have h1 := HVV.out
            rw [List.take_of_length_le (by rw [← HSZ.out]; omega), HV.out] at h1
            omega
          subst hVE
          go_wp2_with (go_at_call 9; (with_reducible refine (awake_any _).mono ?_); rintro e w6 ⟨rfl, hb6⟩)
          go_ret
          exact ⟨rfl, bseq (bseq HI.out.below hb4 (Nat.le_refl _)) hb6 (Nat.le_refl _)⟩

end Go.Proofs.Ytkbodhhhphodiaa
