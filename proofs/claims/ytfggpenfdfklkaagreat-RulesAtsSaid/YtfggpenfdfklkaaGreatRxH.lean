
import Derived.Test.YtfggpenfdfklkaaGreatRxG
import Derived.Test.YtfggpenfdfklkaaGreatRxD
namespace Go.Proofs.YtfggpenfdfklkaaGreat
open Go.RowKit
/-! RulesAts: the walk. -/
set_option maxRecDepth 100000 in
set_option maxHeartbeats 800000 in
theorem ats_out (w : World) (s : ByteArray) (kd n : Int) (_hs : s.size ≤ 9223372036854775807) (h : s.size < 1 ∨ 20 < s.size ∨ n < 0 ∨ 10 < n) :
    Calls Tryz.prog 7 #[.string s, .int .i64 kd, .int .i64 n] w fun e w' => e = .returned (.bool true) ∧ Below w.heap.size w w' := by
  by_cases h1 : (s.size : Int) < 1
  · go_enter Tryz.func7, Tryz.ntmps7
    go_wp2_with (go_at_call 9; (with_reducible refine (awake4_any _).mono ?_); rintro e w2 ⟨rfl, hb2⟩)
    go_ret
    exact ⟨rfl, hb2⟩
  have d1 : decide ((s.size : Int) < 1) = false := decide_eq_false h1
  by_cases h2 : 20 < (s.size : Int)
  · go_enter Tryz.func7, Tryz.ntmps7
    go_wp2_with (go_at_call 9; (with_reducible refine (awake4_any _).mono ?_); rintro e w2 ⟨rfl, hb2⟩)
    go_ret
    exact ⟨rfl, hb2⟩
  have d2 : decide (20 < (s.size : Int)) = false := decide_eq_false h2
  by_cases h3 : n < 0
  · go_enter Tryz.func7, Tryz.ntmps7
    go_wp2_with (go_at_call 9; (with_reducible refine (awake4_any _).mono ?_); rintro e w2 ⟨rfl, hb2⟩)
    go_ret
    exact ⟨rfl, hb2⟩
  have d3 : decide (n < 0) = false := decide_eq_false h3
  have h4 : 10 < n := by omega
  go_enter Tryz.func7, Tryz.ntmps7
  go_wp2_with (go_at_call 9; (with_reducible refine (awake4_any _).mono ?_); rintro e w2 ⟨rfl, hb2⟩)
  go_ret
  exact ⟨rfl, hb2⟩
def rnd3 (x : Int) : Nat := (x % 3).toNat
theorem rnd3_lt (x : Int) : rnd3 x < 3 := by unfold rnd3; omega
theorem rnd3_is (x : Int) : x % 3 = (rnd3 x : Int) := by unfold rnd3; omega
abbrev tlB0 : ByteArray := ⟨#[59]⟩
abbrev tlB1 : ByteArray := ⟨#[32, 123, 32, 99, 111, 108, 111, 114, 58, 32, 114, 101, 100, 59, 32, 64, 121, 32, 123, 32, 122, 58, 32, 119, 32, 125, 32, 98, 58, 32, 99, 32, 125]⟩
abbrev aXB : ByteArray := ⟨#[97, 32, 123, 32, 100, 58, 32, 101, 32, 125]⟩
set_option maxRecDepth 100000 in
set_option maxHeartbeats 6400000 in
theorem ats_main (w : World) (s : ByteArray) (kd : Int) (N : Nat) (h1 : 1 ≤ s.size) (h2 : s.size ≤ 20) (hN : N ≤ 10) :
    Calls Tryz.prog 7 #[.string s, .int .i64 kd, .int .i64 (N : Int)] w fun e w' => e = .returned (.bool true) ∧ Below w.heap.size w w' := by
  have d1 : decide ((s.size : Int) < 1) = false := decide_eq_false (by omega)
  have d2 : decide (20 < (s.size : Int)) = false := decide_eq_false (by omega)
  have d3 : decide ((N : Int) < 0) = false := decide_eq_false (by omega)
  have d4 : decide (10 < (N : Int)) = false := decide_eq_false (by omega)
  go_enter Tryz.func7, Tryz.ntmps7
  go_wp2
  go_loop [7] (fun iv => ∃ k : Nat, k ≤ s.size ∧ iv = .int .i64 k ∧ ∀ j, (hj : j < s.size) → j < k → 97 ≤ ((s[j]'hj).toNat : Int) ∧ ((s[j]'hj).toNat : Int) ≤ 122) (fun iv => s.size - (intOf iv).toNat)
  case atStart => exact ⟨0, Nat.zero_le _, rfl, fun j _ h => absurd h (Nat.not_lt_zero _)⟩
  case round =>
    obtain ⟨k, hk, rfl, hok⟩ := hrel
    have HOK := Lib.hid hok
    clear hok
    by_cases hlt : k < s.size
    · have k1 : (k : Int) < (s.size : Int) := by omega
      have k0 : (0 : Int) ≤ (k : Int) := by omega
      by_cases c1 : ((s[k]'hlt).toNat : Int) < 97
      · go_wp2_with (go_at_call 9; (with_reducible refine (awake4_any _).mono ?_); rintro e w9 ⟨rfl, hb9⟩)
        go_ret
        exact ⟨rfl, hb9⟩
      · have c1d : decide (((s[k]'hlt).toNat : Int) < 97) = false := decide_eq_false c1
        by_cases c2 : 122 < ((s[k]'hlt).toNat : Int)
        · go_wp2_with (go_at_call 9; (with_reducible refine (awake4_any _).mono ?_); rintro e w9 ⟨rfl, hb9⟩)
          go_ret
          exact ⟨rfl, hb9⟩
        · have c2d : decide (122 < ((s[k]'hlt).toNat : Int)) = false := decide_eq_false c2
          have HX : Hid (∀ j, (hj : j < s.size) → j < k + 1 → 97 ≤ ((s[j]'hj).toNat : Int) ∧ ((s[j]'hj).toNat : Int) ≤ 122) := by
            show ∀ _ _ _, _
            intro j hj hjk
            by_cases e : j = k
            · subst e
              omega
            · exact HOK.out j hj (by omega)
          go_wp2
          go_round
          case rel => exact ⟨k + 1, by omega, by go_num, HX.out⟩
          case measure => simp [intOf]; omega
    · obtain rfl : k = s.size := by omega
      have HLO : Hid (∀ x ∈ nums s, 97 ≤ x ∧ x ≤ 122) := by
        show ∀ _ _, _
        intro x hx
        unfold nums at hx
        obtain ⟨y, hy, rfl⟩ := List.mem_map.1 hx
        obtain ⟨j, hj, hjy⟩ := List.getElem_of_mem hy
        have hj2 : j < s.size := by rw [Array.length_toList] at hj; exact hj
        have := HOK.out j hj2 hj2
        have e : s[j]'hj2 = y := by rw [← hjy]; rfl
        rw [e] at this
        exact this
      go_wp2
      go_loop [8, 9] (fun tv iv => ∃ (k : Nat) (t : ByteArray), k ≤ N ∧ iv = .int .i64 k ∧ tv = .string t ∧ t = txA k) (fun _ iv => N - (intOf iv).toNat)
      case atStart => exact ⟨0, _, Nat.zero_le _, rfl, rfl, rfl⟩
      case round =>
        obtain ⟨k, t, hk, rfl, rfl, ht⟩ := hrel
        have HT := Lib.hid ht
        have hts : t.size ≤ 110 := by
          rw [ht, txA_size]
          omega
        clear ht
        by_cases hlt : k < N
        · have HS := Lib.hid (txA_succ k)
          go_wp2
          go_round
          case rel => exact ⟨k + 1, _, by omega, by go_num, rfl, by rw [HS.out, ← HT.out]⟩
          case measure => simp [intOf]; omega
        · obtain rfl : k = N := by omega
          have HK := Lib.hid (rnd3_is kd)
          have hk3 := rnd3_lt kd
          have HNT := Lib.hid (nums_txA k)
          rw [← HT.out] at HNT
          have s0 : ((⟨#[120]⟩ ++ s : ByteArray).toList == (⟨#[120]⟩ ++ s : ByteArray).toList) = true := by simp
          generalize rnd3 kd = K at *
          rcases lt3 hk3 with rfl | rfl | rfl
          · have hn : nums (⟨#[64, 88]⟩ ++ s ++ t ++ tlB0 ++ aXB : ByteArray) = [64, 88] ++ (nums s ++ (rep pA k ++ tlA 0)) := by
              rw [nums_append, nums_append, nums_append, nums_append, HNT.out, show nums ⟨#[64, 88]⟩ = [64, 88] by decide +kernel, show nums tlB0 = [59] by decide +kernel, show nums aXB = aX by decide +kernel]
              show _ = [64, 88] ++ (nums s ++ (rep pA k ++ (59 :: aX)))
              simp only [List.append_assoc, List.cons_append, List.nil_append]
            obtain ⟨PR, hPL, hR⟩ := rules_txA s (⟨#[64, 88]⟩ ++ s ++ t ++ tlB0 ++ aXB : ByteArray) k (by decide) HLO.out hn
            have hsz : (⟨#[64, 88]⟩ ++ s ++ t ++ tlB0 ++ aXB : ByteArray).size ≤ 300 := by
              simp only [ByteArray.size_append]
              have e1 : (⟨#[64, 88]⟩ : ByteArray).size = 2 := rfl
              have e2 : tlB0.size = 1 := rfl
              have e3 : tlB1.size = 33 := rfl
              have e4 : aXB.size = 10 := rfl
              have e5 : (⟨#[]⟩ : ByteArray).size = 0 := rfl
              omega
            have HRR := Lib.hid (show rulesS _ = [⟨⟨#[120]⟩ ++ s, PR, false, []⟩, aRule] from hR)
            clear hR hn
            go_upto_region 17 with (go_at_call 20; refine (round_any kd 3 _ _ (by decide) (by decide) HK.out).mono ?_; rintro e w3 ⟨rfl, rfl⟩)
            have hbA : Below w.heap.size w (w.alloc (.cells #[.string tlB0, .string tlB1, .string ⟨#[]⟩] 9)) := (Below.refl _ _).alloc (Nat.le_refl _) _
            generalize (w.alloc (.cells _ 9)) = wA at *
            obtain ⟨cap, wb, hcv, hrd, hb0⟩ := bytes_in wA (⟨#[64, 88]⟩ ++ s ++ t ++ tlB0 ++ aXB : ByteArray)
            generalize (⟨#[64, 88]⟩ ++ s ++ t ++ tlB0 ++ aXB : ByteArray) = TX at *
            have HA := Lib.hid (rsheet_any (nums TX) _ wb hrd (by rw [nums_length]; omega))
            rw [str_nums, HRR.out] at HA
            have HB0 := Lib.hid (below_seq hbA hb0)
            have HSE : Hid (shE [⟨⟨#[120]⟩ ++ s, PR, false, []⟩, aRule] = 0 ∧ shR [⟨⟨#[120]⟩ ++ s, PR, false, []⟩, aRule] = [⟨⟨#[120]⟩ ++ s, PR, false, []⟩, aRule]) := ⟨rfl, rfl⟩
            clear hrd hb0 hbA HRR
            obtain ⟨L, hL⟩ : ∃ L, PR.length = L := ⟨_, rfl⟩
            have HL := Lib.hid hL
            rw [hL] at hPL
            clear hL
            by_cases hk0 : k = 0
            · subst hk0
              have hL0 : L = 0 := by omega
              subst hL0
              clear hPL
              go_wp2_with (first | (go_at_call 10; refine HA.out.mono ?_; intro e w1 hq; unfold SheetP at hq; rw [HSE.out.1, HSE.out.2] at hq; obtain ⟨⟨v1, rfl, hr1⟩, hb1⟩ := hq; have HB1 := Lib.hid (below_seq HB0.out hb1); obtain ⟨g, off, c, hgv, _, _, _, hat⟩ := hr1.base (Nat.succ_pos _); subst hgv; have y0 : w1.cell? ⟨g, off, none⟩ = some (.string (⟨#[120]⟩ ++ s)) := (hat 0 (Nat.succ_pos _)).c0; have y2 : w1.cell? ⟨g, off + 2, none⟩ = some (.bool false) := (hat 0 (Nat.succ_pos _)).c2; obtain ⟨pu, yp, hp⟩ := (hat 0 (Nat.succ_pos _)).c1; obtain ⟨pa, pc, hps, _⟩ := hp.shape; subst hps; have y1 : w1.cell? ⟨g, off + 1, none⟩ = some (.slice pa PR.length pc) := yp; rw [HL.out] at y1; clear hp yp; have t0 : w1.cell? ⟨g, off + 4, none⟩ = some (.string ⟨#[]⟩) := (hat 1 (Nat.lt_succ_self _)).c0; obtain ⟨d2v, ye, he1⟩ := (hat 1 (Nat.lt_succ_self _)).c3; obtain ⟨ea, ec, hes⟩ := he1.sl; subst hes; have t3 : w1.cell? ⟨g, off + 4 + 3, none⟩ = some (.slice ea 1 ec) := ye; clear ye he1;  clear hat hr1) | (go_at_call 9; (with_reducible refine (awake4_any _).mono ?_); rintro e w9 ⟨rfl, hb9⟩))
              go_ret
              exact ⟨rfl, below_seq HB1.out hb9⟩
            · have m1 : ¬ 4 * (k : Int) - 1 < 0 := by omega
              have m2 : (0 : Int) ≤ 4 * (k : Int) - 1 := by omega
              have m3 : ((L : Int) != 4 * (k : Int) - 1) = false := by
                rw [bne, show ((L : Int) == 4 * (k : Int) - 1) = true by rw [beq_iff_eq]; omega]
                rfl
              have m4 : ((L : Int) == 4 * (k : Int) - 1) = true := by rw [beq_iff_eq]; omega
              clear hPL
              go_wp2_with (first | (go_at_call 10; refine HA.out.mono ?_; intro e w1 hq; unfold SheetP at hq; rw [HSE.out.1, HSE.out.2] at hq; obtain ⟨⟨v1, rfl, hr1⟩, hb1⟩ := hq; have HB1 := Lib.hid (below_seq HB0.out hb1); obtain ⟨g, off, c, hgv, _, _, _, hat⟩ := hr1.base (Nat.succ_pos _); subst hgv; have y0 : w1.cell? ⟨g, off, none⟩ = some (.string (⟨#[120]⟩ ++ s)) := (hat 0 (Nat.succ_pos _)).c0; have y2 : w1.cell? ⟨g, off + 2, none⟩ = some (.bool false) := (hat 0 (Nat.succ_pos _)).c2; obtain ⟨pu, yp, hp⟩ := (hat 0 (Nat.succ_pos _)).c1; obtain ⟨pa, pc, hps, _⟩ := hp.shape; subst hps; have y1 : w1.cell? ⟨g, off + 1, none⟩ = some (.slice pa PR.length pc) := yp; rw [HL.out] at y1; clear hp yp; have t0 : w1.cell? ⟨g, off + 4, none⟩ = some (.string ⟨#[]⟩) := (hat 1 (Nat.lt_succ_self _)).c0; obtain ⟨d2v, ye, he1⟩ := (hat 1 (Nat.lt_succ_self _)).c3; obtain ⟨ea, ec, hes⟩ := he1.sl; subst hes; have t3 : w1.cell? ⟨g, off + 4 + 3, none⟩ = some (.slice ea 1 ec) := ye; clear ye he1;  clear hat hr1) | (go_at_call 9; (with_reducible refine (awake4_any _).mono ?_); rintro e w9 ⟨rfl, hb9⟩))
              go_ret
              exact ⟨rfl, below_seq HB1.out hb9⟩
          · have hn : nums (⟨#[64, 88]⟩ ++ s ++ t ++ tlB1 ++ aXB : ByteArray) = [64, 88] ++ (nums s ++ (rep pA k ++ tlA 1)) := by
              rw [nums_append, nums_append, nums_append, nums_append, HNT.out, show nums ⟨#[64, 88]⟩ = [64, 88] by decide +kernel, show nums tlB1 = bX by decide +kernel, show nums aXB = aX by decide +kernel]
              show _ = [64, 88] ++ (nums s ++ (rep pA k ++ (bX ++ aX)))
              simp only [List.append_assoc, List.cons_append, List.nil_append]
            obtain ⟨PR, hPL, hR⟩ := rules_txA s (⟨#[64, 88]⟩ ++ s ++ t ++ tlB1 ++ aXB : ByteArray) k (by decide) HLO.out hn
            have hsz : (⟨#[64, 88]⟩ ++ s ++ t ++ tlB1 ++ aXB : ByteArray).size ≤ 300 := by
              simp only [ByteArray.size_append]
              have e1 : (⟨#[64, 88]⟩ : ByteArray).size = 2 := rfl
              have e2 : tlB0.size = 1 := rfl
              have e3 : tlB1.size = 33 := rfl
              have e4 : aXB.size = 10 := rfl
              have e5 : (⟨#[]⟩ : ByteArray).size = 0 := rfl
              omega
            have HRR := Lib.hid (show rulesS _ = [⟨⟨#[120]⟩ ++ s, PR, true, [dA1, dA2]⟩, aRule] from hR)
            clear hR hn
            go_upto_region 17 with (go_at_call 20; refine (round_any kd 3 _ _ (by decide) (by decide) HK.out).mono ?_; rintro e w3 ⟨rfl, rfl⟩)
            have hbA : Below w.heap.size w (w.alloc (.cells #[.string tlB0, .string tlB1, .string ⟨#[]⟩] 9)) := (Below.refl _ _).alloc (Nat.le_refl _) _
            generalize (w.alloc (.cells _ 9)) = wA at *
            obtain ⟨cap, wb, hcv, hrd, hb0⟩ := bytes_in wA (⟨#[64, 88]⟩ ++ s ++ t ++ tlB1 ++ aXB : ByteArray)
            generalize (⟨#[64, 88]⟩ ++ s ++ t ++ tlB1 ++ aXB : ByteArray) = TX at *
            have HA := Lib.hid (rsheet_any (nums TX) _ wb hrd (by rw [nums_length]; omega))
            rw [str_nums, HRR.out] at HA
            have HB0 := Lib.hid (below_seq hbA hb0)
            have HSE : Hid (shE [⟨⟨#[120]⟩ ++ s, PR, true, [dA1, dA2]⟩, aRule] = 0 ∧ shR [⟨⟨#[120]⟩ ++ s, PR, true, [dA1, dA2]⟩, aRule] = [⟨⟨#[120]⟩ ++ s, PR, true, [dA1, dA2]⟩, aRule]) := ⟨rfl, rfl⟩
            clear hrd hb0 hbA HRR
            obtain ⟨L, hL⟩ : ∃ L, PR.length = L := ⟨_, rfl⟩
            have HL := Lib.hid hL
            rw [hL] at hPL
            clear hL
            by_cases hk0 : k = 0
            · subst hk0
              have hL0 : L = 0 := by omega
              subst hL0
              clear hPL
              go_wp2_with (first | (go_at_call 10; refine HA.out.mono ?_; intro e w1 hq; unfold SheetP at hq; rw [HSE.out.1, HSE.out.2] at hq; obtain ⟨⟨v1, rfl, hr1⟩, hb1⟩ := hq; have HB1 := Lib.hid (below_seq HB0.out hb1); obtain ⟨g, off, c, hgv, _, _, _, hat⟩ := hr1.base (Nat.succ_pos _); subst hgv; have y0 : w1.cell? ⟨g, off, none⟩ = some (.string (⟨#[120]⟩ ++ s)) := (hat 0 (Nat.succ_pos _)).c0; have y2 : w1.cell? ⟨g, off + 2, none⟩ = some (.bool true) := (hat 0 (Nat.succ_pos _)).c2; obtain ⟨pu, yp, hp⟩ := (hat 0 (Nat.succ_pos _)).c1; obtain ⟨pa, pc, hps, _⟩ := hp.shape; subst hps; have y1 : w1.cell? ⟨g, off + 1, none⟩ = some (.slice pa PR.length pc) := yp; rw [HL.out] at y1; clear hp yp; obtain ⟨d1v, yd, hd1⟩ := (hat 0 (Nat.succ_pos _)).c3; obtain ⟨dg, doff, dc, hdv, _, _, _, hdat⟩ := hd1.base (Nat.succ_pos _); subst hdv; have y3 : w1.cell? ⟨g, off + 3, none⟩ = some (.slice (some ⟨dg, doff, none⟩) 2 dc) := yd; have z0 : w1.cell? ⟨dg, doff + 3, none⟩ = some (.string ⟨#[98]⟩) := (hdat 1 (Nat.lt_succ_self _)).c0; clear hdat hd1 yd; have t0 : w1.cell? ⟨g, off + 4, none⟩ = some (.string ⟨#[]⟩) := (hat 1 (Nat.lt_succ_self _)).c0; obtain ⟨d2v, ye, he1⟩ := (hat 1 (Nat.lt_succ_self _)).c3; obtain ⟨ea, ec, hes⟩ := he1.sl; subst hes; have t3 : w1.cell? ⟨g, off + 4 + 3, none⟩ = some (.slice ea 1 ec) := ye; clear ye he1;  clear hat hr1) | (go_at_call 9; (with_reducible refine (awake4_any _).mono ?_); rintro e w9 ⟨rfl, hb9⟩))
              go_ret
              exact ⟨rfl, below_seq HB1.out hb9⟩
            · have m1 : ¬ 4 * (k : Int) - 1 < 0 := by omega
              have m2 : (0 : Int) ≤ 4 * (k : Int) - 1 := by omega
              have m3 : ((L : Int) != 4 * (k : Int) - 1) = false := by
                rw [bne, show ((L : Int) == 4 * (k : Int) - 1) = true by rw [beq_iff_eq]; omega]
                rfl
              have m4 : ((L : Int) == 4 * (k : Int) - 1) = true := by rw [beq_iff_eq]; omega
              clear hPL
              go_wp2_with (first | (go_at_call 10; refine HA.out.mono ?_; intro e w1 hq; unfold SheetP at hq; rw [HSE.out.1, HSE.out.2] at hq; obtain ⟨⟨v1, rfl, hr1⟩, hb1⟩ := hq; have HB1 := Lib.hid (below_seq HB0.out hb1); obtain ⟨g, off, c, hgv, _, _, _, hat⟩ := hr1.base (Nat.succ_pos _); subst hgv; have y0 : w1.cell? ⟨g, off, none⟩ = some (.string (⟨#[120]⟩ ++ s)) := (hat 0 (Nat.succ_pos _)).c0; have y2 : w1.cell? ⟨g, off + 2, none⟩ = some (.bool true) := (hat 0 (Nat.succ_pos _)).c2; obtain ⟨pu, yp, hp⟩ := (hat 0 (Nat.succ_pos _)).c1; obtain ⟨pa, pc, hps, _⟩ := hp.shape; subst hps; have y1 : w1.cell? ⟨g, off + 1, none⟩ = some (.slice pa PR.length pc) := yp; rw [HL.out] at y1; clear hp yp; obtain ⟨d1v, yd, hd1⟩ := (hat 0 (Nat.succ_pos _)).c3; obtain ⟨dg, doff, dc, hdv, _, _, _, hdat⟩ := hd1.base (Nat.succ_pos _); subst hdv; have y3 : w1.cell? ⟨g, off + 3, none⟩ = some (.slice (some ⟨dg, doff, none⟩) 2 dc) := yd; have z0 : w1.cell? ⟨dg, doff + 3, none⟩ = some (.string ⟨#[98]⟩) := (hdat 1 (Nat.lt_succ_self _)).c0; clear hdat hd1 yd; have t0 : w1.cell? ⟨g, off + 4, none⟩ = some (.string ⟨#[]⟩) := (hat 1 (Nat.lt_succ_self _)).c0; obtain ⟨d2v, ye, he1⟩ := (hat 1 (Nat.lt_succ_self _)).c3; obtain ⟨ea, ec, hes⟩ := he1.sl; subst hes; have t3 : w1.cell? ⟨g, off + 4 + 3, none⟩ = some (.slice ea 1 ec) := ye; clear ye he1;  clear hat hr1) | (go_at_call 9; (with_reducible refine (awake4_any _).mono ?_); rintro e w9 ⟨rfl, hb9⟩))
              go_ret
              exact ⟨rfl, below_seq HB1.out hb9⟩
          · have hn : nums (⟨#[64, 88]⟩ ++ s ++ t ++ ⟨#[]⟩ : ByteArray) = [64, 88] ++ (nums s ++ (rep pA k ++ tlA 2)) := by
              rw [nums_append, nums_append, nums_append, HNT.out, show nums ⟨#[64, 88]⟩ = [64, 88] by decide +kernel, show nums ⟨#[]⟩ = [] by decide +kernel]
              show _ = [64, 88] ++ (nums s ++ (rep pA k ++ []))
              simp only [List.cons_append, List.nil_append, List.append_nil]
            obtain ⟨PR, hPL, hR⟩ := rules_txA s (⟨#[64, 88]⟩ ++ s ++ t ++ ⟨#[]⟩ : ByteArray) k (by decide) HLO.out hn
            have hsz : (⟨#[64, 88]⟩ ++ s ++ t ++ ⟨#[]⟩ : ByteArray).size ≤ 300 := by
              simp only [ByteArray.size_append]
              have e1 : (⟨#[64, 88]⟩ : ByteArray).size = 2 := rfl
              have e2 : tlB0.size = 1 := rfl
              have e3 : tlB1.size = 33 := rfl
              have e4 : aXB.size = 10 := rfl
              have e5 : (⟨#[]⟩ : ByteArray).size = 0 := rfl
              omega
            have HRR := Lib.hid (show rulesS _ = [⟨⟨#[120]⟩ ++ s, PR, false, []⟩] from hR)
            clear hR hn
            go_upto_region 17 with (go_at_call 20; refine (round_any kd 3 _ _ (by decide) (by decide) HK.out).mono ?_; rintro e w3 ⟨rfl, rfl⟩)
            have hbA : Below w.heap.size w (w.alloc (.cells #[.string tlB0, .string tlB1, .string ⟨#[]⟩] 9)) := (Below.refl _ _).alloc (Nat.le_refl _) _
            generalize (w.alloc (.cells _ 9)) = wA at *
            obtain ⟨cap, wb, hcv, hrd, hb0⟩ := bytes_in wA (⟨#[64, 88]⟩ ++ s ++ t ++ ⟨#[]⟩ : ByteArray)
            generalize (⟨#[64, 88]⟩ ++ s ++ t ++ ⟨#[]⟩ : ByteArray) = TX at *
            have HA := Lib.hid (rsheet_any (nums TX) _ wb hrd (by rw [nums_length]; omega))
            rw [str_nums, HRR.out] at HA
            have HB0 := Lib.hid (below_seq hbA hb0)
            have HSE : Hid (shE [⟨⟨#[120]⟩ ++ s, PR, false, []⟩] = 0 ∧ shR [⟨⟨#[120]⟩ ++ s, PR, false, []⟩] = [⟨⟨#[120]⟩ ++ s, PR, false, []⟩]) := ⟨rfl, rfl⟩
            clear hrd hb0 hbA HRR
            obtain ⟨L, hL⟩ : ∃ L, PR.length = L := ⟨_, rfl⟩
            have HL := Lib.hid hL
            rw [hL] at hPL
            clear hL
            by_cases hk0 : k = 0
            · subst hk0
              have hL0 : L = 0 := by omega
              subst hL0
              clear hPL
              go_wp2_with (first | (go_at_call 10; refine HA.out.mono ?_; intro e w1 hq; unfold SheetP at hq; rw [HSE.out.1, HSE.out.2] at hq; obtain ⟨⟨v1, rfl, hr1⟩, hb1⟩ := hq; have HB1 := Lib.hid (below_seq HB0.out hb1); obtain ⟨g, off, c, hgv, _, _, _, hat⟩ := hr1.base (Nat.succ_pos _); subst hgv; have y0 : w1.cell? ⟨g, off, none⟩ = some (.string (⟨#[120]⟩ ++ s)) := (hat 0 (Nat.succ_pos _)).c0; have y2 : w1.cell? ⟨g, off + 2, none⟩ = some (.bool false) := (hat 0 (Nat.succ_pos _)).c2; obtain ⟨pu, yp, hp⟩ := (hat 0 (Nat.succ_pos _)).c1; obtain ⟨pa, pc, hps, _⟩ := hp.shape; subst hps; have y1 : w1.cell? ⟨g, off + 1, none⟩ = some (.slice pa PR.length pc) := yp; rw [HL.out] at y1; clear hp yp;  clear hat hr1) | (go_at_call 9; (with_reducible refine (awake4_any _).mono ?_); rintro e w9 ⟨rfl, hb9⟩))
              go_ret
              exact ⟨rfl, below_seq HB1.out hb9⟩
            · have m1 : ¬ 4 * (k : Int) - 1 < 0 := by omega
              have m2 : (0 : Int) ≤ 4 * (k : Int) - 1 := by omega
              have m3 : ((L : Int) != 4 * (k : Int) - 1) = false := by
                rw [bne, show ((L : Int) == 4 * (k : Int) - 1) = true by rw [beq_iff_eq]; omega]
                rfl
              have m4 : ((L : Int) == 4 * (k : Int) - 1) = true := by rw [beq_iff_eq]; omega
              clear hPL
              go_wp2_with (first | (go_at_call 10; refine HA.out.mono ?_; intro e w1 hq; unfold SheetP at hq; rw [HSE.out.1, HSE.out.2] at hq; obtain ⟨⟨v1, rfl, hr1⟩, hb1⟩ := hq; have HB1 := Lib.hid (below_seq HB0.out hb1); obtain ⟨g, off, c, hgv, _, _, _, hat⟩ := hr1.base (Nat.succ_pos _); subst hgv; have y0 : w1.cell? ⟨g, off, none⟩ = some (.string (⟨#[120]⟩ ++ s)) := (hat 0 (Nat.succ_pos _)).c0; have y2 : w1.cell? ⟨g, off + 2, none⟩ = some (.bool false) := (hat 0 (Nat.succ_pos _)).c2; obtain ⟨pu, yp, hp⟩ := (hat 0 (Nat.succ_pos _)).c1; obtain ⟨pa, pc, hps, _⟩ := hp.shape; subst hps; have y1 : w1.cell? ⟨g, off + 1, none⟩ = some (.slice pa PR.length pc) := yp; rw [HL.out] at y1; clear hp yp;  clear hat hr1) | (go_at_call 9; (with_reducible refine (awake4_any _).mono ?_); rintro e w9 ⟨rfl, hb9⟩))
              go_ret
              exact ⟨rfl, below_seq HB1.out hb9⟩
theorem RulesAts_any (w : World) (s : ByteArray) (ws : s.size ≤ maxLen) (kd : Int) (_wb : (Lit.int .i64 kd).wf = true) (n : Int) (_wt : (Lit.int .i64 n).wf = true) :
    Calls Tryz.prog 7 #[.string s, .int .i64 kd, .int .i64 n] w fun e w' => e = .returned (.bool true) ∧ Below w.heap.size w w' := by
  by_cases h : s.size < 1 ∨ 20 < s.size ∨ n < 0 ∨ 10 < n
  · exact ats_out w s kd n (by unfold maxLen at ws; omega) h
  · obtain ⟨N, rfl⟩ : ∃ N : Nat, n = (N : Int) := ⟨n.toNat, by omega⟩
    exact ats_main w s kd N (by omega) (by omega) (by omega)
end Go.Proofs.YtfggpenfdfklkaaGreat
