
import Derived.Test.YtfggpenfdfklkaaGreatRxE
import Derived.Test.YtfggpenfdfklkaaGreatRxD
namespace Go.Proofs.YtfggpenfdfklkaaGreat
open Go.RowKit
/-! RulesImportant: the walk. -/
set_option maxRecDepth 100000 in
set_option maxHeartbeats 800000 in
theorem imp_out (w : World) (s : ByteArray) (b t : Int) (_hs : s.size ≤ 9223372036854775807) (h : s.size < 1 ∨ 20 < s.size ∨ b < 0 ∨ 5 < b ∨ t < 0 ∨ 3 < t) :
    Calls Tryz.prog 6 #[.string s, .int .i64 b, .int .i64 t] w fun e w' => e = .returned (.bool true) ∧ Below w.heap.size w w' := by
  by_cases h1 : (s.size : Int) < 1
  · go_enter Tryz.func6, Tryz.ntmps6
    go_wp2_with (go_at_call 9; (with_reducible refine (awake4_any _).mono ?_); rintro e w2 ⟨rfl, hb2⟩)
    go_ret
    exact ⟨rfl, hb2⟩
  have d1 : decide ((s.size : Int) < 1) = false := decide_eq_false h1
  by_cases h2 : 20 < (s.size : Int)
  · go_enter Tryz.func6, Tryz.ntmps6
    go_wp2_with (go_at_call 9; (with_reducible refine (awake4_any _).mono ?_); rintro e w2 ⟨rfl, hb2⟩)
    go_ret
    exact ⟨rfl, hb2⟩
  have d2 : decide (20 < (s.size : Int)) = false := decide_eq_false h2
  by_cases h3 : b < 0
  · go_enter Tryz.func6, Tryz.ntmps6
    go_wp2_with (go_at_call 9; (with_reducible refine (awake4_any _).mono ?_); rintro e w2 ⟨rfl, hb2⟩)
    go_ret
    exact ⟨rfl, hb2⟩
  have d3 : decide (b < 0) = false := decide_eq_false h3
  by_cases h4 : 5 < b
  · go_enter Tryz.func6, Tryz.ntmps6
    go_wp2_with (go_at_call 9; (with_reducible refine (awake4_any _).mono ?_); rintro e w2 ⟨rfl, hb2⟩)
    go_ret
    exact ⟨rfl, hb2⟩
  have d4 : decide (5 < b) = false := decide_eq_false h4
  by_cases h5 : t < 0
  · go_enter Tryz.func6, Tryz.ntmps6
    go_wp2_with (go_at_call 9; (with_reducible refine (awake4_any _).mono ?_); rintro e w2 ⟨rfl, hb2⟩)
    go_ret
    exact ⟨rfl, hb2⟩
  have d5 : decide (t < 0) = false := decide_eq_false h5
  have h6 : 3 < t := by omega
  go_enter Tryz.func6, Tryz.ntmps6
  go_wp2_with (go_at_call 9; (with_reducible refine (awake4_any _).mono ?_); rintro e w2 ⟨rfl, hb2⟩)
  go_ret
  exact ⟨rfl, hb2⟩
abbrev sp5 : ByteArray := ⟨#[32, 32, 32, 32, 32]⟩
theorem sp5_nums {b : Nat} (h : b ≤ 5) : nums (sp5.extract 0 b) = List.replicate b 32 ∧ (sp5.extract 0 b).size = b := by
  rcases (by omega : b = 0 ∨ b = 1 ∨ b = 2 ∨ b = 3 ∨ b = 4 ∨ b = 5) with rfl | rfl | rfl | rfl | rfl | rfl <;> decide +kernel
theorem txi_size (W BB : ByteArray) : ∀ n, (txi W BB n).size = 11 + W.size + BB.size + n * (10 + BB.size + BB.size)
  | 0 => by unfold txi; rw [ByteArray.size_append, ByteArray.size_append]; show 11 + _ + _ = _; omega
  | n + 1 => by
    unfold txi
    rw [ByteArray.size_append, ByteArray.size_append, ByteArray.size_append, ByteArray.size_append, txi_size W BB n, Nat.succ_mul]
    show _ + 1 + _ + 9 + _ = _
    omega
set_option maxRecDepth 100000 in
set_option maxHeartbeats 6400000 in
theorem imp_main (w : World) (s : ByteArray) (B T : Nat) (h1 : 1 ≤ s.size) (h2 : s.size ≤ 20) (hB : B ≤ 5) (hT : T ≤ 3) :
    Calls Tryz.prog 6 #[.string s, .int .i64 (B : Int), .int .i64 (T : Int)] w fun e w' => e = .returned (.bool true) ∧ Below w.heap.size w w' := by
  have d1 : decide ((s.size : Int) < 1) = false := decide_eq_false (by omega)
  have d2 : decide (20 < (s.size : Int)) = false := decide_eq_false (by omega)
  have d3 : decide ((B : Int) < 0) = false := decide_eq_false (by omega)
  have d4 : decide (5 < (B : Int)) = false := decide_eq_false (by omega)
  have d5 : decide ((T : Int) < 0) = false := decide_eq_false (by omega)
  have d6 : decide (3 < (T : Int)) = false := decide_eq_false (by omega)
  go_enter Tryz.func6, Tryz.ntmps6
  go_wp2
  go_loop [7] (fun iv => ∃ k : Nat, k ≤ s.size ∧ iv = .int .i64 k ∧ ∀ j, (hj : j < s.size) → j < k → 97 ≤ ((s[j]'hj).toNat : Int) ∧ ((s[j]'hj).toNat : Int) ≤ 122) (fun iv => s.size - (intOf iv).toNat)
  case atStart => exact ⟨0, Nat.zero_le _, rfl, fun j _ h => absurd h (Nat.not_lt_zero _)⟩
  case round =>
    obtain ⟨k, hk, rfl, hok⟩ := hrel
    have HOK := Lib.hid hok
    clear hok
    by_cases hlt : k < s.size
    · have k1 : (k : Int) < (s.size : Int) := by omega
      have k0 : (0 : Int) ≤ (k : Int) := by omega
      by_cases c1 : ((s[k]'hlt).toNat : Int) < 97
      · go_wp2_with (go_at_call 9; (with_reducible refine (awake4_any _).mono ?_); rintro e w9 ⟨rfl, hb9⟩)
        go_ret
        exact ⟨rfl, hb9⟩
      · have c1d : decide (((s[k]'hlt).toNat : Int) < 97) = false := decide_eq_false c1
        by_cases c2 : 122 < ((s[k]'hlt).toNat : Int)
        · go_wp2_with (go_at_call 9; (with_reducible refine (awake4_any _).mono ?_); rintro e w9 ⟨rfl, hb9⟩)
          go_ret
          exact ⟨rfl, hb9⟩
        · have c2d : decide (122 < ((s[k]'hlt).toNat : Int)) = false := decide_eq_false c2
          have HX : Hid (∀ j, (hj : j < s.size) → j < k + 1 → 97 ≤ ((s[j]'hj).toNat : Int) ∧ ((s[j]'hj).toNat : Int) ≤ 122) := by
            show ∀ _ _ _, _
            intro j hj hjk
            by_cases e : j = k
            · subst e
              omega
            · exact HOK.out j hj (by omega)
          go_wp2
          go_round
          case rel => exact ⟨k + 1, by omega, by go_num, HX.out⟩
          case measure => simp [intOf]; omega
    · obtain rfl : k = s.size := by omega
      have HLO : Hid (∀ x ∈ nums s, 97 ≤ x ∧ x ≤ 122) := by
        show ∀ _ _, _
        intro x hx
        unfold nums at hx
        obtain ⟨y, hy, rfl⟩ := List.mem_map.1 hx
        obtain ⟨j, hj, hjy⟩ := List.getElem_of_mem hy
        have hj2 : j < s.size := by rw [Array.length_toList] at hj; exact hj
        have := HOK.out j hj2 hj2
        have e : s[j]'hj2 = y := by rw [← hjy]; rfl
        rw [e] at this
        exact this
      obtain ⟨HBN, HBS⟩ := sp5_nums hB
      have HBN := Lib.hid HBN
      have hbs := HBS
      have b0 : (0 : Int) ≤ (B : Int) := by omega
      have b5 : (B : Int) ≤ 5 := by omega
      clear HBS
      go_upto_region 10 with fail
      generalize ByteArray.extract ⟨#[32, 32, 32, 32, 32]⟩ 0 B = BB at *
      have HTX := Lib.hid (fun n => txi_size s BB n)
      rw [hbs] at HTX
      have HRU := Lib.hid (rules_txi s BB B T HBN.out hT HLO.out h1)
      go_wp2
      go_loop [9, 10] (fun tv iv => ∃ (k : Nat) (t : ByteArray), k ≤ T ∧ iv = .int .i64 k ∧ tv = .string t ∧ t = txi s BB k) (fun _ iv => T - (intOf iv).toNat)
      case atStart => exact ⟨0, _, Nat.zero_le _, rfl, rfl, rfl⟩
      case round =>
        obtain ⟨k, t, hk, rfl, rfl, ht⟩ := hrel
        have HT := Lib.hid ht
        have hts : t.size ≤ 96 := by
          rw [ht, HTX.out]
          have : k * (10 + B + B) ≤ 3 * 20 := Nat.mul_le_mul (by omega) (by omega)
          omega
        clear ht
        by_cases hlt : k < T
        · have HS : Hid (txi s BB (k + 1) = txi s BB k ++ ⟨#[33]⟩ ++ BB ++ impI ++ BB) := rfl
          go_wp2
          go_round
          case rel => exact ⟨k + 1, _, by omega, by go_num, rfl, by rw [HS.out, ← HT.out]⟩
          case measure => simp [intOf]; omega
        · obtain rfl : k = T := by omega
          obtain ⟨cap, wb, hcv, hrd, hb0⟩ := bytes_in w (t ++ ⟨#[125]⟩)
          have HA := Lib.hid (rsheet_any (nums (t ++ ⟨#[125]⟩)) _ wb hrd (by rw [nums_length, ByteArray.size_append]; have : (⟨#[125]⟩ : ByteArray).size = 1 := rfl; omega))
          rw [str_nums, HT.out, HRU.out, ← HT.out] at HA
          obtain ⟨NS, hNS⟩ : ∃ NS, (t ++ ⟨#[125]⟩ : ByteArray).size = NS := ⟨_, rfl⟩
          rw [hNS] at HA hcv
          clear hNS
          have HB0 := Lib.hid hb0
          have HSE : Hid (shE [⟨⟨#[]⟩, [lf 1 ⟨#[97]⟩], true, DIi s k⟩] = 0 ∧ shR [⟨⟨#[]⟩, [lf 1 ⟨#[97]⟩], true, DIi s k⟩] = [⟨⟨#[]⟩, [lf 1 ⟨#[97]⟩], true, DIi s k⟩]) := ⟨rfl, rfl⟩
          clear hrd hb0 HRU
          have s0 : (s.toList == s.toList) = true := by simp
          rcases (by omega : k = 0 ∨ k = 1 ∨ (2 ≤ k ∧ k ≤ 3)) with rfl | rfl | ⟨hk2, hk3⟩
          · have HD : Hid (DIi s 0 = [⟨⟨#[99, 111, 108, 111, 114]⟩, [lf 1 s], false⟩]) := rfl
            go_wp2_with (first | (go_at_call 10; refine HA.out.mono ?_; intro e w1 hq; unfold SheetP at hq; rw [HSE.out.1, HSE.out.2, HD.out] at hq; obtain ⟨⟨v1, rfl, hr1⟩, hb1⟩ := hq; have HB1 := Lib.hid (below_seq HB0.out hb1); obtain ⟨g, off, c, hgv, _, _, _, hat⟩ := hr1.base (Nat.succ_pos _); subst hgv; obtain ⟨d1v, y3, hd1⟩ := (hat 0 (Nat.succ_pos _)).c3; obtain ⟨dg, doff, dc, hdv, _, _, _, hdat⟩ := hd1.base (Nat.succ_pos _); subst hdv; have z2 : w1.cell? ⟨dg, doff + 2, none⟩ = some (.bool false) := (hdat 0 (Nat.succ_pos _)).c2; obtain ⟨u, z1, hu⟩ := (hdat 0 (Nat.succ_pos _)).c1; obtain ⟨ng, noff, nc, hnv, _, _, _, hnat⟩ := hu.base (Nat.succ_pos _); subst hnv; obtain ⟨_, hn0, _⟩ := hnat 0 (Nat.succ_pos _); have q1 : w1.cell? ⟨ng, noff + 1, none⟩ = some (.string s) := hn0.c1; have x3 : w1.cell? ⟨g, off + 3, none⟩ = some (.slice (some ⟨dg, doff, none⟩) 1 dc) := y3; have x1 : w1.cell? ⟨dg, doff + 1, none⟩ = some (.slice (some ⟨ng, noff, none⟩) 1 nc) := z1; clear y3 z1 hat hdat hnat hn0 hu hd1 hr1) | (go_at_call 9; (with_reducible refine (awake4_any _).mono ?_); rintro e w9 ⟨rfl, hb9⟩))
            go_ret
            exact ⟨rfl, below_seq HB1.out hb9⟩
          · have HD : Hid (DIi s 1 = [⟨⟨#[99, 111, 108, 111, 114]⟩, [lf 1 s], true⟩]) := rfl
            go_wp2_with (first | (go_at_call 10; refine HA.out.mono ?_; intro e w1 hq; unfold SheetP at hq; rw [HSE.out.1, HSE.out.2, HD.out] at hq; obtain ⟨⟨v1, rfl, hr1⟩, hb1⟩ := hq; have HB1 := Lib.hid (below_seq HB0.out hb1); obtain ⟨g, off, c, hgv, _, _, _, hat⟩ := hr1.base (Nat.succ_pos _); subst hgv; obtain ⟨d1v, y3, hd1⟩ := (hat 0 (Nat.succ_pos _)).c3; obtain ⟨dg, doff, dc, hdv, _, _, _, hdat⟩ := hd1.base (Nat.succ_pos _); subst hdv; have z2 : w1.cell? ⟨dg, doff + 2, none⟩ = some (.bool true) := (hdat 0 (Nat.succ_pos _)).c2; obtain ⟨u, z1, hu⟩ := (hdat 0 (Nat.succ_pos _)).c1; obtain ⟨ng, noff, nc, hnv, _, _, _, hnat⟩ := hu.base (Nat.succ_pos _); subst hnv; obtain ⟨_, hn0, _⟩ := hnat 0 (Nat.succ_pos _); have q1 : w1.cell? ⟨ng, noff + 1, none⟩ = some (.string s) := hn0.c1; have x3 : w1.cell? ⟨g, off + 3, none⟩ = some (.slice (some ⟨dg, doff, none⟩) 1 dc) := y3; have x1 : w1.cell? ⟨dg, doff + 1, none⟩ = some (.slice (some ⟨ng, noff, none⟩) 1 nc) := z1; clear y3 z1 hat hdat hnat hn0 hu hd1 hr1) | (go_at_call 9; (with_reducible refine (awake4_any _).mono ?_); rintro e w9 ⟨rfl, hb9⟩))
            go_ret
            exact ⟨rfl, below_seq HB1.out hb9⟩
          · have HD : Hid (DIi s k = []) := by
              show _ = _
              unfold DIi
              rw [if_neg (by omega), if_neg (by omega)]
            have hk1 : (1 : Int) < (k : Int) := by omega
            go_wp2_with (first | (go_at_call 10; refine HA.out.mono ?_; intro e w1 hq; unfold SheetP at hq; rw [HSE.out.1, HSE.out.2, HD.out] at hq; obtain ⟨⟨v1, rfl, hr1⟩, hb1⟩ := hq; have HB1 := Lib.hid (below_seq HB0.out hb1); obtain ⟨g, off, c, hgv, _, _, _, hat⟩ := hr1.base (Nat.succ_pos _); subst hgv; obtain ⟨d1v, y3, hd1⟩ := (hat 0 (Nat.succ_pos _)).c3; obtain ⟨da, dc, hdv⟩ := hd1.sl; subst hdv; have x3 : w1.cell? ⟨g, off + 3, none⟩ = some (.slice da 0 dc) := y3; clear y3 hat hd1 hr1) | (go_at_call 9; (with_reducible refine (awake4_any _).mono ?_); rintro e w9 ⟨rfl, hb9⟩))
            go_ret
            exact ⟨rfl, below_seq HB1.out hb9⟩
theorem RulesImportant_any (w : World) (s : ByteArray) (ws : s.size ≤ maxLen) (b : Int) (_wb : (Lit.int .i64 b).wf = true) (t : Int) (_wt : (Lit.int .i64 t).wf = true) :
    Calls Tryz.prog 6 #[.string s, .int .i64 b, .int .i64 t] w fun e w' => e = .returned (.bool true) ∧ Below w.heap.size w w' := by
  by_cases h : s.size < 1 ∨ 20 < s.size ∨ b < 0 ∨ 5 < b ∨ t < 0 ∨ 3 < t
  · exact imp_out w s b t (by unfold maxLen at ws; omega) h
  · obtain ⟨B, rfl⟩ : ∃ B : Nat, b = (B : Int) := ⟨b.toNat, by omega⟩
    obtain ⟨T, rfl⟩ : ∃ T : Nat, t = (T : Int) := ⟨t.toNat, by omega⟩
    exact imp_main w s B T (by omega) (by omega) (by omega) (by omega)
end Go.Proofs.YtfggpenfdfklkaaGreat
