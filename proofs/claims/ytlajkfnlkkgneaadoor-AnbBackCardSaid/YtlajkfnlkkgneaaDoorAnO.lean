
import Derived.Test.YtlajkfnlkkgneaaDoorAnQ
namespace Go.Proofs.YtlajkfnlkkgneaaDoor
open Go.RowKit Go.Shelf
theorem dB_sz (n : Int) (h : -2147483648 ≤ n ∧ n ≤ 2147483648) : (dB n).size ≤ 21 := (decT_size n (by omega)).2
theorem textS_sz (a b : Int) (ha : -2147483648 ≤ a ∧ a ≤ 2147483648) (hb : -2147483648 ≤ b ∧ b ≤ 2147483648) : (textS a b).size ≤ 100 := by
  have h1 := dB_sz a ha
  have h2 := dB_sz b hb
  unfold textS
  rw [itB_dB, itB_dB]
  repeat' split
  · omega
  · rw [ByteArray.size_append]; show (dB a).size + 1 ≤ _; omega
  · rw [ByteArray.size_append, ByteArray.size_append]; show (dB a).size + 2 + (dB b).size ≤ _; omega
  · rw [ByteArray.size_append, ByteArray.size_append]; show (dB a).size + 1 + (dB b).size ≤ _; omega
set_option maxRecDepth 100000 in
set_option maxHeartbeats 1600000 in
theorem back_out (w : World) (a b k : Int) (ht : Tab w) (h : a < -2147483648 ∨ 2147483648 ≤ a ∨ b ≤ -2147483648 ∨ 2147483648 ≤ b) :
    Calls Tryd.prog 4 #[.int .i64 a, .int .i64 b, .int .i64 k] w fun e w' => e = .returned (.bool true) ∧ Below w.heap.size w w' := by
  have HT := Lib.hid ht
  clear ht
  by_cases c0 : a < -2147483648
  · clear h
    go_enter Tryd.func4, Tryd.ntmps4
    go_wp2_with (go_at_call 7; (with_reducible refine (awake5_any _ HT.out).mono ?_); rintro e w9 ⟨rfl, hb9⟩)
    go_ret
    exact ⟨rfl, hb9⟩
  by_cases c1 : 2147483648 ≤ a
  · clear h
    go_enter Tryd.func4, Tryd.ntmps4
    go_wp2_with (go_at_call 7; (with_reducible refine (awake5_any _ HT.out).mono ?_); rintro e w9 ⟨rfl, hb9⟩)
    go_ret
    exact ⟨rfl, hb9⟩
  by_cases c2 : b ≤ -2147483648
  · clear h
    go_enter Tryd.func4, Tryd.ntmps4
    go_wp2_with (go_at_call 7; (with_reducible refine (awake5_any _ HT.out).mono ?_); rintro e w9 ⟨rfl, hb9⟩)
    go_ret
    exact ⟨rfl, hb9⟩
  by_cases c3 : 2147483648 ≤ b
  · clear h
    go_enter Tryd.func4, Tryd.ntmps4
    go_wp2_with (go_at_call 7; (with_reducible refine (awake5_any _ HT.out).mono ?_); rintro e w9 ⟨rfl, hb9⟩)
    go_ret
    exact ⟨rfl, hb9⟩
  omega
set_option maxRecDepth 100000 in
set_option maxHeartbeats 1600000 in
theorem back_a0 (w : World) (b k : Int) (ht : Tab w) (hb : -2147483648 < b ∧ b < 2147483648) :
    Calls Tryd.prog 4 #[.int .i64 0, .int .i64 b, .int .i64 k] w fun e w' => e = .returned (.bool true) ∧ Below w.heap.size w w' := by
  obtain ⟨a, ha⟩ : ∃ a : Int, a = 0 := ⟨0, rfl⟩
  rw [← ha]
  have HP1 := Lib.hid (show parseS (ndsS (toks (readS (textS a b)))) = (a, b, true) by rw [ha]; exact tx_a0 b (by omega))
  have HT0 := Lib.hid ht
  have hs1 := textS_sz a b (by omega) (by omega)
  have HZ1 := Lib.hid (show (textS a b).size ≤ 5000000 by omega)
  have HN1 := Lib.hid (nds_text5 (textS a b) (by omega))
  have HS1 := Lib.hid (nds_sz5 (textS a b) (by omega))
  have HTX := Lib.hid (text_any a b w ⟨by omega, by omega⟩ ⟨by omega, by omega⟩ HT0.out)
  clear ht hs1
  subst ha
  generalize textS 0 b = s1 at *
  go_enter Tryd.func4, Tryd.ntmps4
  go_wp2_with fail
  refine HTX.out.mono ?_
  rintro e w1 ⟨rfl, hb1⟩
  go_wp2_with fail
  refine (nodes5_any _ _ HZ1.out).mono ?_
  rintro e w2 ⟨⟨v2, rfl, hv2⟩, hb2⟩
  go_wp2_with fail
  refine (parse_any hv2 HS1.out HN1.out).mono ?_
  rintro e w3 ⟨rfl, hb3⟩
  rw [HP1.out]
  have hB3 := below_seq (below_seq hb1 hb2) hb3
  clear hv2
  have HT := Lib.hid (HT0.out.below hB3)
  go_wp2_with (go_at_call 7; (with_reducible refine (awake5_any _ HT.out).mono ?_); rintro e w9 ⟨rfl, hb9⟩)
  go_ret
  exact ⟨rfl, below_seq hB3 hb9⟩
set_option maxRecDepth 100000 in
set_option maxHeartbeats 1600000 in
theorem back_b0 (w : World) (a k : Int) (ht : Tab w) (ha : -2147483648 ≤ a ∧ a < 2147483648) (h0 : a ≠ 0) :
    Calls Tryd.prog 4 #[.int .i64 a, .int .i64 0, .int .i64 k] w fun e w' => e = .returned (.bool true) ∧ Below w.heap.size w w' := by
  obtain ⟨b, hb⟩ : ∃ b : Int, b = 0 := ⟨0, rfl⟩
  rw [← hb]
  have HP1 := Lib.hid (show parseS (ndsS (toks (readS (textS a b)))) = (a, b, true) by rw [hb]; exact tx_b0 a ha h0)
  have HT0 := Lib.hid ht
  have hs1 := textS_sz a b (by omega) (by omega)
  have HZ1 := Lib.hid (show (textS a b).size ≤ 5000000 by omega)
  have HN1 := Lib.hid (nds_text5 (textS a b) (by omega))
  have HS1 := Lib.hid (nds_sz5 (textS a b) (by omega))
  have HTX := Lib.hid (text_any a b w ⟨by omega, by omega⟩ ⟨by omega, by omega⟩ HT0.out)
  clear ht hs1
  subst hb
  have h0' : (a == 0) = false := by simpa using h0
  generalize textS a 0 = s1 at *
  go_enter Tryd.func4, Tryd.ntmps4
  go_wp2_with fail
  refine HTX.out.mono ?_
  rintro e w1 ⟨rfl, hb1⟩
  go_wp2_with fail
  refine (nodes5_any _ _ HZ1.out).mono ?_
  rintro e w2 ⟨⟨v2, rfl, hv2⟩, hb2⟩
  go_wp2_with fail
  refine (parse_any hv2 HS1.out HN1.out).mono ?_
  rintro e w3 ⟨rfl, hb3⟩
  rw [HP1.out]
  have hB3 := below_seq (below_seq hb1 hb2) hb3
  clear hv2
  have HT := Lib.hid (HT0.out.below hB3)
  go_wp2_with (go_at_call 7; (with_reducible refine (awake5_any _ HT.out).mono ?_); rintro e w9 ⟨rfl, hb9⟩)
  go_ret
  exact ⟨rfl, below_seq hB3 hb9⟩
set_option maxRecDepth 100000 in
set_option maxHeartbeats 3200000 in
theorem back_m0 (w : World) (a b k : Int) (ht : Tab w) (ha : -2147483648 ≤ a ∧ a < 2147483648) (hb : -2147483648 < b ∧ b < 2147483648) (h0 : a ≠ 0) (hs : b < 0) (hk : k % 7 = 0) :
    Calls Tryd.prog 4 #[.int .i64 a, .int .i64 b, .int .i64 k] w fun e w' => e = .returned (.bool true) ∧ Below w.heap.size w w' := by
  have hbm : ((b.natAbs : Nat) : Int) = -b := by omega
  have HP1 := Lib.hid (show parseS (ndsS (toks (readS (textS a b)))) = (a, b, true) by
    have h := tx_m a b.natAbs ha h0 (by omega) (by omega)
    rw [hbm, Int.neg_neg] at h
    exact h)
  have HP2 := Lib.hid (show parseS (ndsS (toks (readS (dB a ++ ⟨#[110, 32]⟩ ++ ⟨#[45]⟩ ++ ⟨#[32]⟩ ++ dB (-b))))) = (a, b, true) by
    have h := ps_m0 a b.natAbs ha (by omega)
    unfold txt_m0 at h
    rw [hbm, Int.neg_neg] at h
    exact h)
  have HT0 := Lib.hid ht
  have hs1 := textS_sz a b (by omega) (by omega)
  have HZ1 := Lib.hid (show (textS a b).size ≤ 5000000 by omega)
  have HN1 := Lib.hid (nds_text5 (textS a b) (by omega))
  have HS1 := Lib.hid (nds_sz5 (textS a b) (by omega))
  have HTX := Lib.hid (text_any a b w ⟨by omega, by omega⟩ ⟨by omega, by omega⟩ HT0.out)
  clear ht hs1
  have hza := dB_sz a (by omega)
  have hzb := dB_sz (-b) (by omega)
  have hs2 : (dB a ++ ⟨#[110, 32]⟩ ++ ⟨#[45]⟩ ++ ⟨#[32]⟩ ++ dB (-b) : ByteArray).size ≤ 200 := by
    simp only [ByteArray.size_append]
    show (dB a).size + 2 + 1 + 1 + (dB (-b)).size ≤ 200
    omega
  have HZ2 := Lib.hid (show (dB a ++ ⟨#[110, 32]⟩ ++ ⟨#[45]⟩ ++ ⟨#[32]⟩ ++ dB (-b) : ByteArray).size ≤ 5000000 by omega)
  have HN2 := Lib.hid (nds_text5 (dB a ++ ⟨#[110, 32]⟩ ++ ⟨#[45]⟩ ++ ⟨#[32]⟩ ++ dB (-b)) (by omega))
  have HS2 := Lib.hid (nds_sz5 (dB a ++ ⟨#[110, 32]⟩ ++ ⟨#[45]⟩ ++ ⟨#[32]⟩ ++ dB (-b)) (by omega))
  have HK := Lib.hid hk
  have h0' : (a == 0) = false := by simpa using h0
  have hb0 : ¬ b = 0 := by omega
  have hb0' : (b == 0) = false := by simpa using hb0
  have hbs : b < 0 := by omega
  have HDA := fun w => Lib.hid (decimal_any a w (by omega))
  have HDB := fun w => Lib.hid (decimal_any (-b) w (by omega))
  clear hk hs2 hbm hs
  obtain ⟨ha1, ha2⟩ := ha
  obtain ⟨hb1', hb2'⟩ := hb
  generalize textS a b = s1 at *
  go_enter Tryd.func4, Tryd.ntmps4
  go_wp2_with fail
  refine HTX.out.mono ?_
  rintro e w1 ⟨rfl, hb1⟩
  go_wp2_with fail
  refine (nodes5_any _ _ HZ1.out).mono ?_
  rintro e w2 ⟨⟨v2, rfl, hv2⟩, hb2⟩
  go_wp2_with fail
  refine (parse_any hv2 HS1.out HN1.out).mono ?_
  rintro e w3 ⟨rfl, hb3⟩
  rw [HP1.out]
  have hB3 := below_seq (below_seq hb1 hb2) hb3
  clear hv2
  go_wp2_with fail
  refine (HDA _).out.mono ?_
  rintro e w4 ⟨rfl, hb4⟩
  rw [show strOfNums (decT a) = dB a from rfl]
  go_wp2_with fail
  refine (HDB _).out.mono ?_
  rintro e w5 ⟨rfl, hb5⟩
  rw [show strOfNums (decT (-b)) = dB (-b) from rfl]
  have hB5 := below_seq (below_seq hB3 hb4) hb5
  clear HDA HDB
  generalize dB a = A at *
  generalize dB (-b) = B at *
  go_wp2_with (go_at_call 16; (with_reducible refine (round_any k 7 0 _ (by decide) (by decide) HK.out).mono ?_); rintro e w' ⟨rfl, rfl⟩)
  refine (nodes5_any _ _ HZ2.out).mono ?_
  rintro e w6 ⟨⟨v6, rfl, hv6⟩, hb6⟩
  go_wp2_with fail
  refine (parse_any hv6 HS2.out HN2.out).mono ?_
  rintro e w7 ⟨rfl, hb7⟩
  rw [HP2.out]
  have hB7 := below_seq (below_seq hB5 hb6) hb7
  have HT := Lib.hid (HT0.out.below hB7)
  clear hv6
  go_wp2_with (go_at_call 7; (with_reducible refine (awake5_any _ HT.out).mono ?_); rintro e w9 ⟨rfl, hb9⟩)
  go_ret
  exact ⟨rfl, below_seq hB7 hb9⟩
set_option maxRecDepth 100000 in
set_option maxHeartbeats 3200000 in
theorem back_m1 (w : World) (a b k : Int) (ht : Tab w) (ha : -2147483648 ≤ a ∧ a < 2147483648) (hb : -2147483648 < b ∧ b < 2147483648) (h0 : a ≠ 0) (hs : b < 0) (hk : k % 7 = 1) :
    Calls Tryd.prog 4 #[.int .i64 a, .int .i64 b, .int .i64 k] w fun e w' => e = .returned (.bool true) ∧ Below w.heap.size w w' := by
  have hbm : ((b.natAbs : Nat) : Int) = -b := by omega
  have HP1 := Lib.hid (show parseS (ndsS (toks (readS (textS a b)))) = (a, b, true) by
    have h := tx_m a b.natAbs ha h0 (by omega) (by omega)
    rw [hbm, Int.neg_neg] at h
    exact h)
  have HP2 := Lib.hid (show parseS (ndsS (toks (readS (dB a ++ ⟨#[78, 32]⟩ ++ ⟨#[45]⟩ ++ dB (-b))))) = (a, b, true) by
    have h := ps_m1 a b.natAbs ha (by omega)
    unfold txt_m1 at h
    rw [hbm, Int.neg_neg] at h
    exact h)
  have HT0 := Lib.hid ht
  have hs1 := textS_sz a b (by omega) (by omega)
  have HZ1 := Lib.hid (show (textS a b).size ≤ 5000000 by omega)
  have HN1 := Lib.hid (nds_text5 (textS a b) (by omega))
  have HS1 := Lib.hid (nds_sz5 (textS a b) (by omega))
  have HTX := Lib.hid (text_any a b w ⟨by omega, by omega⟩ ⟨by omega, by omega⟩ HT0.out)
  clear ht hs1
  have hza := dB_sz a (by omega)
  have hzb := dB_sz (-b) (by omega)
  have hs2 : (dB a ++ ⟨#[78, 32]⟩ ++ ⟨#[45]⟩ ++ dB (-b) : ByteArray).size ≤ 200 := by
    simp only [ByteArray.size_append]
    show (dB a).size + 2 + 1 + (dB (-b)).size ≤ 200
    omega
  have HZ2 := Lib.hid (show (dB a ++ ⟨#[78, 32]⟩ ++ ⟨#[45]⟩ ++ dB (-b) : ByteArray).size ≤ 5000000 by omega)
  have HN2 := Lib.hid (nds_text5 (dB a ++ ⟨#[78, 32]⟩ ++ ⟨#[45]⟩ ++ dB (-b)) (by omega))
  have HS2 := Lib.hid (nds_sz5 (dB a ++ ⟨#[78, 32]⟩ ++ ⟨#[45]⟩ ++ dB (-b)) (by omega))
  have HK := Lib.hid hk
  have h0' : (a == 0) = false := by simpa using h0
  have hb0 : ¬ b = 0 := by omega
  have hb0' : (b == 0) = false := by simpa using hb0
  have hbs : b < 0 := by omega
  have HDA := fun w => Lib.hid (decimal_any a w (by omega))
  have HDB := fun w => Lib.hid (decimal_any (-b) w (by omega))
  clear hk hs2 hbm hs
  obtain ⟨ha1, ha2⟩ := ha
  obtain ⟨hb1', hb2'⟩ := hb
  generalize textS a b = s1 at *
  go_enter Tryd.func4, Tryd.ntmps4
  go_wp2_with fail
  refine HTX.out.mono ?_
  rintro e w1 ⟨rfl, hb1⟩
  go_wp2_with fail
  refine (nodes5_any _ _ HZ1.out).mono ?_
  rintro e w2 ⟨⟨v2, rfl, hv2⟩, hb2⟩
  go_wp2_with fail
  refine (parse_any hv2 HS1.out HN1.out).mono ?_
  rintro e w3 ⟨rfl, hb3⟩
  rw [HP1.out]
  have hB3 := below_seq (below_seq hb1 hb2) hb3
  clear hv2
  go_wp2_with fail
  refine (HDA _).out.mono ?_
  rintro e w4 ⟨rfl, hb4⟩
  rw [show strOfNums (decT a) = dB a from rfl]
  go_wp2_with fail
  refine (HDB _).out.mono ?_
  rintro e w5 ⟨rfl, hb5⟩
  rw [show strOfNums (decT (-b)) = dB (-b) from rfl]
  have hB5 := below_seq (below_seq hB3 hb4) hb5
  clear HDA HDB
  generalize dB a = A at *
  generalize dB (-b) = B at *
  go_wp2_with (go_at_call 16; (with_reducible refine (round_any k 7 1 _ (by decide) (by decide) HK.out).mono ?_); rintro e w' ⟨rfl, rfl⟩)
  refine (nodes5_any _ _ HZ2.out).mono ?_
  rintro e w6 ⟨⟨v6, rfl, hv6⟩, hb6⟩
  go_wp2_with fail
  refine (parse_any hv6 HS2.out HN2.out).mono ?_
  rintro e w7 ⟨rfl, hb7⟩
  rw [HP2.out]
  have hB7 := below_seq (below_seq hB5 hb6) hb7
  have HT := Lib.hid (HT0.out.below hB7)
  clear hv6
  go_wp2_with (go_at_call 7; (with_reducible refine (awake5_any _ HT.out).mono ?_); rintro e w9 ⟨rfl, hb9⟩)
  go_ret
  exact ⟨rfl, below_seq hB7 hb9⟩
set_option maxRecDepth 100000 in
set_option maxHeartbeats 3200000 in
theorem back_m2 (w : World) (a b k : Int) (ht : Tab w) (ha : -2147483648 ≤ a ∧ a < 2147483648) (hb : -2147483648 < b ∧ b < 2147483648) (h0 : a ≠ 0) (hs : b < 0) (hk : k % 7 = 2) :
    Calls Tryd.prog 4 #[.int .i64 a, .int .i64 b, .int .i64 k] w fun e w' => e = .returned (.bool true) ∧ Below w.heap.size w w' := by
  have hbm : ((b.natAbs : Nat) : Int) = -b := by omega
  have HP1 := Lib.hid (show parseS (ndsS (toks (readS (textS a b)))) = (a, b, true) by
    have h := tx_m a b.natAbs ha h0 (by omega) (by omega)
    rw [hbm, Int.neg_neg] at h
    exact h)
  have HP2 := Lib.hid (show parseS (ndsS (toks (readS (dB a ++ ⟨#[110]⟩ ++ ⟨#[45]⟩ ++ ⟨#[32]⟩ ++ dB (-b))))) = (a, b, true) by
    have h := ps_m2 a b.natAbs ha (by omega)
    unfold txt_m2 at h
    rw [hbm, Int.neg_neg] at h
    exact h)
  have HT0 := Lib.hid ht
  have hs1 := textS_sz a b (by omega) (by omega)
  have HZ1 := Lib.hid (show (textS a b).size ≤ 5000000 by omega)
  have HN1 := Lib.hid (nds_text5 (textS a b) (by omega))
  have HS1 := Lib.hid (nds_sz5 (textS a b) (by omega))
  have HTX := Lib.hid (text_any a b w ⟨by omega, by omega⟩ ⟨by omega, by omega⟩ HT0.out)
  clear ht hs1
  have hza := dB_sz a (by omega)
  have hzb := dB_sz (-b) (by omega)
  have hs2 : (dB a ++ ⟨#[110]⟩ ++ ⟨#[45]⟩ ++ ⟨#[32]⟩ ++ dB (-b) : ByteArray).size ≤ 200 := by
    simp only [ByteArray.size_append]
    show (dB a).size + 1 + 1 + 1 + (dB (-b)).size ≤ 200
    omega
  have HZ2 := Lib.hid (show (dB a ++ ⟨#[110]⟩ ++ ⟨#[45]⟩ ++ ⟨#[32]⟩ ++ dB (-b) : ByteArray).size ≤ 5000000 by omega)
  have HN2 := Lib.hid (nds_text5 (dB a ++ ⟨#[110]⟩ ++ ⟨#[45]⟩ ++ ⟨#[32]⟩ ++ dB (-b)) (by omega))
  have HS2 := Lib.hid (nds_sz5 (dB a ++ ⟨#[110]⟩ ++ ⟨#[45]⟩ ++ ⟨#[32]⟩ ++ dB (-b)) (by omega))
  have HK := Lib.hid hk
  have h0' : (a == 0) = false := by simpa using h0
  have hb0 : ¬ b = 0 := by omega
  have hb0' : (b == 0) = false := by simpa using hb0
  have hbs : b < 0 := by omega
  have HDA := fun w => Lib.hid (decimal_any a w (by omega))
  have HDB := fun w => Lib.hid (decimal_any (-b) w (by omega))
  clear hk hs2 hbm hs
  obtain ⟨ha1, ha2⟩ := ha
  obtain ⟨hb1', hb2'⟩ := hb
  generalize textS a b = s1 at *
  go_enter Tryd.func4, Tryd.ntmps4
  go_wp2_with fail
  refine HTX.out.mono ?_
  rintro e w1 ⟨rfl, hb1⟩
  go_wp2_with fail
  refine (nodes5_any _ _ HZ1.out).mono ?_
  rintro e w2 ⟨⟨v2, rfl, hv2⟩, hb2⟩
  go_wp2_with fail
  refine (parse_any hv2 HS1.out HN1.out).mono ?_
  rintro e w3 ⟨rfl, hb3⟩
  rw [HP1.out]
  have hB3 := below_seq (below_seq hb1 hb2) hb3
  clear hv2
  go_wp2_with fail
  refine (HDA _).out.mono ?_
  rintro e w4 ⟨rfl, hb4⟩
  rw [show strOfNums (decT a) = dB a from rfl]
  go_wp2_with fail
  refine (HDB _).out.mono ?_
  rintro e w5 ⟨rfl, hb5⟩
  rw [show strOfNums (decT (-b)) = dB (-b) from rfl]
  have hB5 := below_seq (below_seq hB3 hb4) hb5
  clear HDA HDB
  generalize dB a = A at *
  generalize dB (-b) = B at *
  go_wp2_with (go_at_call 16; (with_reducible refine (round_any k 7 2 _ (by decide) (by decide) HK.out).mono ?_); rintro e w' ⟨rfl, rfl⟩)
  refine (nodes5_any _ _ HZ2.out).mono ?_
  rintro e w6 ⟨⟨v6, rfl, hv6⟩, hb6⟩
  go_wp2_with fail
  refine (parse_any hv6 HS2.out HN2.out).mono ?_
  rintro e w7 ⟨rfl, hb7⟩
  rw [HP2.out]
  have hB7 := below_seq (below_seq hB5 hb6) hb7
  have HT := Lib.hid (HT0.out.below hB7)
  clear hv6
  go_wp2_with (go_at_call 7; (with_reducible refine (awake5_any _ HT.out).mono ?_); rintro e w9 ⟨rfl, hb9⟩)
  go_ret
  exact ⟨rfl, below_seq hB7 hb9⟩
set_option maxRecDepth 100000 in
set_option maxHeartbeats 3200000 in
theorem back_m3 (w : World) (a b k : Int) (ht : Tab w) (ha : -2147483648 ≤ a ∧ a < 2147483648) (hb : -2147483648 < b ∧ b < 2147483648) (h0 : a ≠ 0) (hs : b < 0) (hk : k % 7 = 3) :
    Calls Tryd.prog 4 #[.int .i64 a, .int .i64 b, .int .i64 k] w fun e w' => e = .returned (.bool true) ∧ Below w.heap.size w w' := by
  have hbm : ((b.natAbs : Nat) : Int) = -b := by omega
  have HP1 := Lib.hid (show parseS (ndsS (toks (readS (textS a b)))) = (a, b, true) by
    have h := tx_m a b.natAbs ha h0 (by omega) (by omega)
    rw [hbm, Int.neg_neg] at h
    exact h)
  have HP2 := Lib.hid (show parseS (ndsS (toks (readS (dB a ++ ⟨#[32, 110]⟩ ++ ⟨#[45]⟩ ++ dB (-b))))) = (0, 0, false) by
    have h := ps_m3 a b.natAbs ha (by omega)
    unfold txt_m3 at h
    rw [hbm] at h
    exact h)
  have HT0 := Lib.hid ht
  have hs1 := textS_sz a b (by omega) (by omega)
  have HZ1 := Lib.hid (show (textS a b).size ≤ 5000000 by omega)
  have HN1 := Lib.hid (nds_text5 (textS a b) (by omega))
  have HS1 := Lib.hid (nds_sz5 (textS a b) (by omega))
  have HTX := Lib.hid (text_any a b w ⟨by omega, by omega⟩ ⟨by omega, by omega⟩ HT0.out)
  clear ht hs1
  have hza := dB_sz a (by omega)
  have hzb := dB_sz (-b) (by omega)
  have hs2 : (dB a ++ ⟨#[32, 110]⟩ ++ ⟨#[45]⟩ ++ dB (-b) : ByteArray).size ≤ 200 := by
    simp only [ByteArray.size_append]
    show (dB a).size + 2 + 1 + (dB (-b)).size ≤ 200
    omega
  have HZ2 := Lib.hid (show (dB a ++ ⟨#[32, 110]⟩ ++ ⟨#[45]⟩ ++ dB (-b) : ByteArray).size ≤ 5000000 by omega)
  have HN2 := Lib.hid (nds_text5 (dB a ++ ⟨#[32, 110]⟩ ++ ⟨#[45]⟩ ++ dB (-b)) (by omega))
  have HS2 := Lib.hid (nds_sz5 (dB a ++ ⟨#[32, 110]⟩ ++ ⟨#[45]⟩ ++ dB (-b)) (by omega))
  have HK := Lib.hid hk
  have h0' : (a == 0) = false := by simpa using h0
  have hb0 : ¬ b = 0 := by omega
  have hb0' : (b == 0) = false := by simpa using hb0
  have hbs : b < 0 := by omega
  have HDA := fun w => Lib.hid (decimal_any a w (by omega))
  have HDB := fun w => Lib.hid (decimal_any (-b) w (by omega))
  clear hk hs2 hbm hs
  obtain ⟨ha1, ha2⟩ := ha
  obtain ⟨hb1', hb2'⟩ := hb
  generalize textS a b = s1 at *
  go_enter Tryd.func4, Tryd.ntmps4
  go_wp2_with fail
  refine HTX.out.mono ?_
  rintro e w1 ⟨rfl, hb1⟩
  go_wp2_with fail
  refine (nodes5_any _ _ HZ1.out).mono ?_
  rintro e w2 ⟨⟨v2, rfl, hv2⟩, hb2⟩
  go_wp2_with fail
  refine (parse_any hv2 HS1.out HN1.out).mono ?_
  rintro e w3 ⟨rfl, hb3⟩
  rw [HP1.out]
  have hB3 := below_seq (below_seq hb1 hb2) hb3
  clear hv2
  go_wp2_with fail
  refine (HDA _).out.mono ?_
  rintro e w4 ⟨rfl, hb4⟩
  rw [show strOfNums (decT a) = dB a from rfl]
  go_wp2_with fail
  refine (HDB _).out.mono ?_
  rintro e w5 ⟨rfl, hb5⟩
  rw [show strOfNums (decT (-b)) = dB (-b) from rfl]
  have hB5 := below_seq (below_seq hB3 hb4) hb5
  clear HDA HDB
  generalize dB a = A at *
  generalize dB (-b) = B at *
  go_wp2_with (go_at_call 16; (with_reducible refine (round_any k 7 3 _ (by decide) (by decide) HK.out).mono ?_); rintro e w' ⟨rfl, rfl⟩)
  refine (nodes5_any _ _ HZ2.out).mono ?_
  rintro e w6 ⟨⟨v6, rfl, hv6⟩, hb6⟩
  go_wp2_with fail
  refine (parse_any hv6 HS2.out HN2.out).mono ?_
  rintro e w7 ⟨rfl, hb7⟩
  rw [HP2.out]
  have hB7 := below_seq (below_seq hB5 hb6) hb7
  have HT := Lib.hid (HT0.out.below hB7)
  clear hv6
  go_wp2_with (go_at_call 7; (with_reducible refine (awake5_any _ HT.out).mono ?_); rintro e w9 ⟨rfl, hb9⟩)
  go_ret
  exact ⟨rfl, below_seq hB7 hb9⟩
set_option maxRecDepth 100000 in
set_option maxHeartbeats 3200000 in
theorem back_m4 (w : World) (a b k : Int) (ht : Tab w) (ha : -2147483648 ≤ a ∧ a < 2147483648) (hb : -2147483648 < b ∧ b < 2147483648) (h0 : a ≠ 0) (hs : b < 0) (hk : k % 7 = 4) :
    Calls Tryd.prog 4 #[.int .i64 a, .int .i64 b, .int .i64 k] w fun e w' => e = .returned (.bool true) ∧ Below w.heap.size w w' := by
  have hbm : ((b.natAbs : Nat) : Int) = -b := by omega
  have HP1 := Lib.hid (show parseS (ndsS (toks (readS (textS a b)))) = (a, b, true) by
    have h := tx_m a b.natAbs ha h0 (by omega) (by omega)
    rw [hbm, Int.neg_neg] at h
    exact h)
  have HP2 := Lib.hid (show parseS (ndsS (toks (readS (dB a ++ ⟨#[110, 32]⟩ ++ dB (-b))))) = (0, 0, false) by
    have h := ps_m4 a b.natAbs ha (by omega)
    unfold txt_m4 at h
    rw [hbm] at h
    exact h)
  have HT0 := Lib.hid ht
  have hs1 := textS_sz a b (by omega) (by omega)
  have HZ1 := Lib.hid (show (textS a b).size ≤ 5000000 by omega)
  have HN1 := Lib.hid (nds_text5 (textS a b) (by omega))
  have HS1 := Lib.hid (nds_sz5 (textS a b) (by omega))
  have HTX := Lib.hid (text_any a b w ⟨by omega, by omega⟩ ⟨by omega, by omega⟩ HT0.out)
  clear ht hs1
  have hza := dB_sz a (by omega)
  have hzb := dB_sz (-b) (by omega)
  have hs2 : (dB a ++ ⟨#[110, 32]⟩ ++ dB (-b) : ByteArray).size ≤ 200 := by
    simp only [ByteArray.size_append]
    show (dB a).size + 2 + (dB (-b)).size ≤ 200
    omega
  have HZ2 := Lib.hid (show (dB a ++ ⟨#[110, 32]⟩ ++ dB (-b) : ByteArray).size ≤ 5000000 by omega)
  have HN2 := Lib.hid (nds_text5 (dB a ++ ⟨#[110, 32]⟩ ++ dB (-b)) (by omega))
  have HS2 := Lib.hid (nds_sz5 (dB a ++ ⟨#[110, 32]⟩ ++ dB (-b)) (by omega))
  have HK := Lib.hid hk
  have h0' : (a == 0) = false := by simpa using h0
  have hb0 : ¬ b = 0 := by omega
  have hb0' : (b == 0) = false := by simpa using hb0
  have hbs : b < 0 := by omega
  have HDA := fun w => Lib.hid (decimal_any a w (by omega))
  have HDB := fun w => Lib.hid (decimal_any (-b) w (by omega))
  clear hk hs2 hbm hs
  obtain ⟨ha1, ha2⟩ := ha
  obtain ⟨hb1', hb2'⟩ := hb
  generalize textS a b = s1 at *
  go_enter Tryd.func4, Tryd.ntmps4
  go_wp2_with fail
  refine HTX.out.mono ?_
  rintro e w1 ⟨rfl, hb1⟩
  go_wp2_with fail
  refine (nodes5_any _ _ HZ1.out).mono ?_
  rintro e w2 ⟨⟨v2, rfl, hv2⟩, hb2⟩
  go_wp2_with fail
  refine (parse_any hv2 HS1.out HN1.out).mono ?_
  rintro e w3 ⟨rfl, hb3⟩
  rw [HP1.out]
  have hB3 := below_seq (below_seq hb1 hb2) hb3
  clear hv2
  go_wp2_with fail
  refine (HDA _).out.mono ?_
  rintro e w4 ⟨rfl, hb4⟩
  rw [show strOfNums (decT a) = dB a from rfl]
  go_wp2_with fail
  refine (HDB _).out.mono ?_
  rintro e w5 ⟨rfl, hb5⟩
  rw [show strOfNums (decT (-b)) = dB (-b) from rfl]
  have hB5 := below_seq (below_seq hB3 hb4) hb5
  clear HDA HDB
  generalize dB a = A at *
  generalize dB (-b) = B at *
  go_wp2_with (go_at_call 16; (with_reducible refine (round_any k 7 4 _ (by decide) (by decide) HK.out).mono ?_); rintro e w' ⟨rfl, rfl⟩)
  refine (nodes5_any _ _ HZ2.out).mono ?_
  rintro e w6 ⟨⟨v6, rfl, hv6⟩, hb6⟩
  go_wp2_with fail
  refine (parse_any hv6 HS2.out HN2.out).mono ?_
  rintro e w7 ⟨rfl, hb7⟩
  rw [HP2.out]
  have hB7 := below_seq (below_seq hB5 hb6) hb7
  have HT := Lib.hid (HT0.out.below hB7)
  clear hv6
  go_wp2_with (go_at_call 7; (with_reducible refine (awake5_any _ HT.out).mono ?_); rintro e w9 ⟨rfl, hb9⟩)
  go_ret
  exact ⟨rfl, below_seq hB7 hb9⟩
set_option maxRecDepth 100000 in
set_option maxHeartbeats 3200000 in
theorem back_m5 (w : World) (a b k : Int) (ht : Tab w) (ha : -2147483648 ≤ a ∧ a < 2147483648) (hb : -2147483648 < b ∧ b < 2147483648) (h0 : a ≠ 0) (hs : b < 0) (hk : k % 7 = 5) :
    Calls Tryd.prog 4 #[.int .i64 a, .int .i64 b, .int .i64 k] w fun e w' => e = .returned (.bool true) ∧ Below w.heap.size w w' := by
  have hbm : ((b.natAbs : Nat) : Int) = -b := by omega
  have HP1 := Lib.hid (show parseS (ndsS (toks (readS (textS a b)))) = (a, b, true) by
    have h := tx_m a b.natAbs ha h0 (by omega) (by omega)
    rw [hbm, Int.neg_neg] at h
    exact h)
  have HP2 := Lib.hid (show parseS (ndsS (toks (readS (dB a ++ ⟨#[110, 32]⟩ ++ ⟨#[45]⟩ ++ ⟨#[32]⟩ ++ ⟨#[45]⟩ ++ dB (-b))))) = (0, 0, false) by
    have h := ps_m5 a b.natAbs ha (by omega)
    unfold txt_m5 at h
    rw [hbm] at h
    exact h)
  have HT0 := Lib.hid ht
  have hs1 := textS_sz a b (by omega) (by omega)
  have HZ1 := Lib.hid (show (textS a b).size ≤ 5000000 by omega)
  have HN1 := Lib.hid (nds_text5 (textS a b) (by omega))
  have HS1 := Lib.hid (nds_sz5 (textS a b) (by omega))
  have HTX := Lib.hid (text_any a b w ⟨by omega, by omega⟩ ⟨by omega, by omega⟩ HT0.out)
  clear ht hs1
  have hza := dB_sz a (by omega)
  have hzb := dB_sz (-b) (by omega)
  have hs2 : (dB a ++ ⟨#[110, 32]⟩ ++ ⟨#[45]⟩ ++ ⟨#[32]⟩ ++ ⟨#[45]⟩ ++ dB (-b) : ByteArray).size ≤ 200 := by
    simp only [ByteArray.size_append]
    show (dB a).size + 2 + 1 + 1 + 1 + (dB (-b)).size ≤ 200
    omega
  have HZ2 := Lib.hid (show (dB a ++ ⟨#[110, 32]⟩ ++ ⟨#[45]⟩ ++ ⟨#[32]⟩ ++ ⟨#[45]⟩ ++ dB (-b) : ByteArray).size ≤ 5000000 by omega)
  have HN2 := Lib.hid (nds_text5 (dB a ++ ⟨#[110, 32]⟩ ++ ⟨#[45]⟩ ++ ⟨#[32]⟩ ++ ⟨#[45]⟩ ++ dB (-b)) (by omega))
  have HS2 := Lib.hid (nds_sz5 (dB a ++ ⟨#[110, 32]⟩ ++ ⟨#[45]⟩ ++ ⟨#[32]⟩ ++ ⟨#[45]⟩ ++ dB (-b)) (by omega))
  have HK := Lib.hid hk
  have h0' : (a == 0) = false := by simpa using h0
  have hb0 : ¬ b = 0 := by omega
  have hb0' : (b == 0) = false := by simpa using hb0
  have hbs : b < 0 := by omega
  have HDA := fun w => Lib.hid (decimal_any a w (by omega))
  have HDB := fun w => Lib.hid (decimal_any (-b) w (by omega))
  clear hk hs2 hbm hs
  obtain ⟨ha1, ha2⟩ := ha
  obtain ⟨hb1', hb2'⟩ := hb
  generalize textS a b = s1 at *
  go_enter Tryd.func4, Tryd.ntmps4
  go_wp2_with fail
  refine HTX.out.mono ?_
  rintro e w1 ⟨rfl, hb1⟩
  go_wp2_with fail
  refine (nodes5_any _ _ HZ1.out).mono ?_
  rintro e w2 ⟨⟨v2, rfl, hv2⟩, hb2⟩
  go_wp2_with fail
  refine (parse_any hv2 HS1.out HN1.out).mono ?_
  rintro e w3 ⟨rfl, hb3⟩
  rw [HP1.out]
  have hB3 := below_seq (below_seq hb1 hb2) hb3
  clear hv2
  go_wp2_with fail
  refine (HDA _).out.mono ?_
  rintro e w4 ⟨rfl, hb4⟩
  rw [show strOfNums (decT a) = dB a from rfl]
  go_wp2_with fail
  refine (HDB _).out.mono ?_
  rintro e w5 ⟨rfl, hb5⟩
  rw [show strOfNums (decT (-b)) = dB (-b) from rfl]
  have hB5 := below_seq (below_seq hB3 hb4) hb5
  clear HDA HDB
  generalize dB a = A at *
  generalize dB (-b) = B at *
  go_wp2_with (go_at_call 16; (with_reducible refine (round_any k 7 5 _ (by decide) (by decide) HK.out).mono ?_); rintro e w' ⟨rfl, rfl⟩)
  refine (nodes5_any _ _ HZ2.out).mono ?_
  rintro e w6 ⟨⟨v6, rfl, hv6⟩, hb6⟩
  go_wp2_with fail
  refine (parse_any hv6 HS2.out HN2.out).mono ?_
  rintro e w7 ⟨rfl, hb7⟩
  rw [HP2.out]
  have hB7 := below_seq (below_seq hB5 hb6) hb7
  have HT := Lib.hid (HT0.out.below hB7)
  clear hv6
  go_wp2_with (go_at_call 7; (with_reducible refine (awake5_any _ HT.out).mono ?_); rintro e w9 ⟨rfl, hb9⟩)
  go_ret
  exact ⟨rfl, below_seq hB7 hb9⟩
set_option maxRecDepth 100000 in
set_option maxHeartbeats 3200000 in
theorem back_m6 (w : World) (a b k : Int) (ht : Tab w) (ha : -2147483648 ≤ a ∧ a < 2147483648) (hb : -2147483648 < b ∧ b < 2147483648) (h0 : a ≠ 0) (hs : b < 0) (hk : k % 7 = 6) :
    Calls Tryd.prog 4 #[.int .i64 a, .int .i64 b, .int .i64 k] w fun e w' => e = .returned (.bool true) ∧ Below w.heap.size w w' := by
  have hbm : ((b.natAbs : Nat) : Int) = -b := by omega
  have HP1 := Lib.hid (show parseS (ndsS (toks (readS (textS a b)))) = (a, b, true) by
    have h := tx_m a b.natAbs ha h0 (by omega) (by omega)
    rw [hbm, Int.neg_neg] at h
    exact h)
  have HP2 := Lib.hid (show parseS (ndsS (toks (readS (dB a ++ ⟨#[110]⟩ ++ ⟨#[45]⟩ ++ dB (-b) ++ ⟨#[32, 49]⟩)))) = (0, 0, false) by
    have h := ps_m6 a b.natAbs ha (by omega)
    unfold txt_m6 at h
    rw [hbm] at h
    exact h)
  have HT0 := Lib.hid ht
  have hs1 := textS_sz a b (by omega) (by omega)
  have HZ1 := Lib.hid (show (textS a b).size ≤ 5000000 by omega)
  have HN1 := Lib.hid (nds_text5 (textS a b) (by omega))
  have HS1 := Lib.hid (nds_sz5 (textS a b) (by omega))
  have HTX := Lib.hid (text_any a b w ⟨by omega, by omega⟩ ⟨by omega, by omega⟩ HT0.out)
  clear ht hs1
  have hza := dB_sz a (by omega)
  have hzb := dB_sz (-b) (by omega)
  have hs2 : (dB a ++ ⟨#[110]⟩ ++ ⟨#[45]⟩ ++ dB (-b) ++ ⟨#[32, 49]⟩ : ByteArray).size ≤ 200 := by
    simp only [ByteArray.size_append]
    show (dB a).size + 1 + 1 + (dB (-b)).size + 2 ≤ 200
    omega
  have HZ2 := Lib.hid (show (dB a ++ ⟨#[110]⟩ ++ ⟨#[45]⟩ ++ dB (-b) ++ ⟨#[32, 49]⟩ : ByteArray).size ≤ 5000000 by omega)
  have HN2 := Lib.hid (nds_text5 (dB a ++ ⟨#[110]⟩ ++ ⟨#[45]⟩ ++ dB (-b) ++ ⟨#[32, 49]⟩) (by omega))
  have HS2 := Lib.hid (nds_sz5 (dB a ++ ⟨#[110]⟩ ++ ⟨#[45]⟩ ++ dB (-b) ++ ⟨#[32, 49]⟩) (by omega))
  have HK := Lib.hid hk
  have h0' : (a == 0) = false := by simpa using h0
  have hb0 : ¬ b = 0 := by omega
  have hb0' : (b == 0) = false := by simpa using hb0
  have hbs : b < 0 := by omega
  have HDA := fun w => Lib.hid (decimal_any a w (by omega))
  have HDB := fun w => Lib.hid (decimal_any (-b) w (by omega))
  clear hk hs2 hbm hs
  obtain ⟨ha1, ha2⟩ := ha
  obtain ⟨hb1', hb2'⟩ := hb
  generalize textS a b = s1 at *
  go_enter Tryd.func4, Tryd.ntmps4
  go_wp2_with fail
  refine HTX.out.mono ?_
  rintro e w1 ⟨rfl, hb1⟩
  go_wp2_with fail
  refine (nodes5_any _ _ HZ1.out).mono ?_
  rintro e w2 ⟨⟨v2, rfl, hv2⟩, hb2⟩
  go_wp2_with fail
  refine (parse_any hv2 HS1.out HN1.out).mono ?_
  rintro e w3 ⟨rfl, hb3⟩
  rw [HP1.out]
  have hB3 := below_seq (below_seq hb1 hb2) hb3
  clear hv2
  go_wp2_with fail
  refine (HDA _).out.mono ?_
  rintro e w4 ⟨rfl, hb4⟩
  rw [show strOfNums (decT a) = dB a from rfl]
  go_wp2_with fail
  refine (HDB _).out.mono ?_
  rintro e w5 ⟨rfl, hb5⟩
  rw [show strOfNums (decT (-b)) = dB (-b) from rfl]
  have hB5 := below_seq (below_seq hB3 hb4) hb5
  clear HDA HDB
  generalize dB a = A at *
  generalize dB (-b) = B at *
  go_wp2_with (go_at_call 16; (with_reducible refine (round_any k 7 6 _ (by decide) (by decide) HK.out).mono ?_); rintro e w' ⟨rfl, rfl⟩)
  refine (nodes5_any _ _ HZ2.out).mono ?_
  rintro e w6 ⟨⟨v6, rfl, hv6⟩, hb6⟩
  go_wp2_with fail
  refine (parse_any hv6 HS2.out HN2.out).mono ?_
  rintro e w7 ⟨rfl, hb7⟩
  rw [HP2.out]
  have hB7 := below_seq (below_seq hB5 hb6) hb7
  have HT := Lib.hid (HT0.out.below hB7)
  clear hv6
  go_wp2_with (go_at_call 7; (with_reducible refine (awake5_any _ HT.out).mono ?_); rintro e w9 ⟨rfl, hb9⟩)
  go_ret
  exact ⟨rfl, below_seq hB7 hb9⟩
set_option maxRecDepth 100000 in
set_option maxHeartbeats 3200000 in
theorem back_p0 (w : World) (a b k : Int) (ht : Tab w) (ha : -2147483648 ≤ a ∧ a < 2147483648) (hb : -2147483648 < b ∧ b < 2147483648) (h0 : a ≠ 0) (hs : 0 < b) (hk : k % 7 = 0) :
    Calls Tryd.prog 4 #[.int .i64 a, .int .i64 b, .int .i64 k] w fun e w' => e = .returned (.bool true) ∧ Below w.heap.size w w' := by
  have hbm : ((b.natAbs : Nat) : Int) = b := by omega
  have HP1 := Lib.hid (show parseS (ndsS (toks (readS (textS a b)))) = (a, b, true) by
    have h := tx_p a b.natAbs ha h0 (by omega) (by omega)
    rw [hbm] at h
    exact h)
  have HP2 := Lib.hid (show parseS (ndsS (toks (readS (dB a ++ ⟨#[110, 32]⟩ ++ ⟨#[43]⟩ ++ ⟨#[32]⟩ ++ dB b)))) = (a, b, true) by
    have h := ps_p0 a b.natAbs ha (by omega)
    unfold txt_p0 at h
    rw [hbm] at h
    exact h)
  have HT0 := Lib.hid ht
  have hs1 := textS_sz a b (by omega) (by omega)
  have HZ1 := Lib.hid (show (textS a b).size ≤ 5000000 by omega)
  have HN1 := Lib.hid (nds_text5 (textS a b) (by omega))
  have HS1 := Lib.hid (nds_sz5 (textS a b) (by omega))
  have HTX := Lib.hid (text_any a b w ⟨by omega, by omega⟩ ⟨by omega, by omega⟩ HT0.out)
  clear ht hs1
  have hza := dB_sz a (by omega)
  have hzb := dB_sz b (by omega)
  have hs2 : (dB a ++ ⟨#[110, 32]⟩ ++ ⟨#[43]⟩ ++ ⟨#[32]⟩ ++ dB b : ByteArray).size ≤ 200 := by
    simp only [ByteArray.size_append]
    show (dB a).size + 2 + 1 + 1 + (dB b).size ≤ 200
    omega
  have HZ2 := Lib.hid (show (dB a ++ ⟨#[110, 32]⟩ ++ ⟨#[43]⟩ ++ ⟨#[32]⟩ ++ dB b : ByteArray).size ≤ 5000000 by omega)
  have HN2 := Lib.hid (nds_text5 (dB a ++ ⟨#[110, 32]⟩ ++ ⟨#[43]⟩ ++ ⟨#[32]⟩ ++ dB b) (by omega))
  have HS2 := Lib.hid (nds_sz5 (dB a ++ ⟨#[110, 32]⟩ ++ ⟨#[43]⟩ ++ ⟨#[32]⟩ ++ dB b) (by omega))
  have HK := Lib.hid hk
  have h0' : (a == 0) = false := by simpa using h0
  have hb0 : ¬ b = 0 := by omega
  have hb0' : (b == 0) = false := by simpa using hb0
  have hbs : ¬ b < 0 := by omega
  have HDA := fun w => Lib.hid (decimal_any a w (by omega))
  have HDB := fun w => Lib.hid (decimal_any b w (by omega))
  clear hk hs2 hbm hs
  obtain ⟨ha1, ha2⟩ := ha
  obtain ⟨hb1', hb2'⟩ := hb
  generalize textS a b = s1 at *
  go_enter Tryd.func4, Tryd.ntmps4
  go_wp2_with fail
  refine HTX.out.mono ?_
  rintro e w1 ⟨rfl, hb1⟩
  go_wp2_with fail
  refine (nodes5_any _ _ HZ1.out).mono ?_
  rintro e w2 ⟨⟨v2, rfl, hv2⟩, hb2⟩
  go_wp2_with fail
  refine (parse_any hv2 HS1.out HN1.out).mono ?_
  rintro e w3 ⟨rfl, hb3⟩
  rw [HP1.out]
  have hB3 := below_seq (below_seq hb1 hb2) hb3
  clear hv2
  go_wp2_with fail
  refine (HDA _).out.mono ?_
  rintro e w4 ⟨rfl, hb4⟩
  rw [show strOfNums (decT a) = dB a from rfl]
  go_wp2_with fail
  refine (HDB _).out.mono ?_
  rintro e w5 ⟨rfl, hb5⟩
  rw [show strOfNums (decT b) = dB b from rfl]
  have hB5 := below_seq (below_seq hB3 hb4) hb5
  clear HDA HDB
  generalize dB a = A at *
  generalize dB b = B at *
  go_wp2_with (go_at_call 16; (with_reducible refine (round_any k 7 0 _ (by decide) (by decide) HK.out).mono ?_); rintro e w' ⟨rfl, rfl⟩)
  refine (nodes5_any _ _ HZ2.out).mono ?_
  rintro e w6 ⟨⟨v6, rfl, hv6⟩, hb6⟩
  go_wp2_with fail
  refine (parse_any hv6 HS2.out HN2.out).mono ?_
  rintro e w7 ⟨rfl, hb7⟩
  rw [HP2.out]
  have hB7 := below_seq (below_seq hB5 hb6) hb7
  have HT := Lib.hid (HT0.out.below hB7)
  clear hv6
  go_wp2_with (go_at_call 7; (with_reducible refine (awake5_any _ HT.out).mono ?_); rintro e w9 ⟨rfl, hb9⟩)
  go_ret
  exact ⟨rfl, below_seq hB7 hb9⟩
set_option maxRecDepth 100000 in
set_option maxHeartbeats 3200000 in
theorem back_p1 (w : World) (a b k : Int) (ht : Tab w) (ha : -2147483648 ≤ a ∧ a < 2147483648) (hb : -2147483648 < b ∧ b < 2147483648) (h0 : a ≠ 0) (hs : 0 < b) (hk : k % 7 = 1) :
    Calls Tryd.prog 4 #[.int .i64 a, .int .i64 b, .int .i64 k] w fun e w' => e = .returned (.bool true) ∧ Below w.heap.size w w' := by
  have hbm : ((b.natAbs : Nat) : Int) = b := by omega
  have HP1 := Lib.hid (show parseS (ndsS (toks (readS (textS a b)))) = (a, b, true) by
    have h := tx_p a b.natAbs ha h0 (by omega) (by omega)
    rw [hbm] at h
    exact h)
  have HP2 := Lib.hid (show parseS (ndsS (toks (readS (dB a ++ ⟨#[78, 32]⟩ ++ ⟨#[43]⟩ ++ dB b)))) = (a, b, true) by
    have h := ps_p1 a b.natAbs ha (by omega)
    unfold txt_p1 at h
    rw [hbm] at h
    exact h)
  have HT0 := Lib.hid ht
  have hs1 := textS_sz a b (by omega) (by omega)
  have HZ1 := Lib.hid (show (textS a b).size ≤ 5000000 by omega)
  have HN1 := Lib.hid (nds_text5 (textS a b) (by omega))
  have HS1 := Lib.hid (nds_sz5 (textS a b) (by omega))
  have HTX := Lib.hid (text_any a b w ⟨by omega, by omega⟩ ⟨by omega, by omega⟩ HT0.out)
  clear ht hs1
  have hza := dB_sz a (by omega)
  have hzb := dB_sz b (by omega)
  have hs2 : (dB a ++ ⟨#[78, 32]⟩ ++ ⟨#[43]⟩ ++ dB b : ByteArray).size ≤ 200 := by
    simp only [ByteArray.size_append]
    show (dB a).size + 2 + 1 + (dB b).size ≤ 200
    omega
  have HZ2 := Lib.hid (show (dB a ++ ⟨#[78, 32]⟩ ++ ⟨#[43]⟩ ++ dB b : ByteArray).size ≤ 5000000 by omega)
  have HN2 := Lib.hid (nds_text5 (dB a ++ ⟨#[78, 32]⟩ ++ ⟨#[43]⟩ ++ dB b) (by omega))
  have HS2 := Lib.hid (nds_sz5 (dB a ++ ⟨#[78, 32]⟩ ++ ⟨#[43]⟩ ++ dB b) (by omega))
  have HK := Lib.hid hk
  have h0' : (a == 0) = false := by simpa using h0
  have hb0 : ¬ b = 0 := by omega
  have hb0' : (b == 0) = false := by simpa using hb0
  have hbs : ¬ b < 0 := by omega
  have HDA := fun w => Lib.hid (decimal_any a w (by omega))
  have HDB := fun w => Lib.hid (decimal_any b w (by omega))
  clear hk hs2 hbm hs
  obtain ⟨ha1, ha2⟩ := ha
  obtain ⟨hb1', hb2'⟩ := hb
  generalize textS a b = s1 at *
  go_enter Tryd.func4, Tryd.ntmps4
  go_wp2_with fail
  refine HTX.out.mono ?_
  rintro e w1 ⟨rfl, hb1⟩
  go_wp2_with fail
  refine (nodes5_any _ _ HZ1.out).mono ?_
  rintro e w2 ⟨⟨v2, rfl, hv2⟩, hb2⟩
  go_wp2_with fail
  refine (parse_any hv2 HS1.out HN1.out).mono ?_
  rintro e w3 ⟨rfl, hb3⟩
  rw [HP1.out]
  have hB3 := below_seq (below_seq hb1 hb2) hb3
  clear hv2
  go_wp2_with fail
  refine (HDA _).out.mono ?_
  rintro e w4 ⟨rfl, hb4⟩
  rw [show strOfNums (decT a) = dB a from rfl]
  go_wp2_with fail
  refine (HDB _).out.mono ?_
  rintro e w5 ⟨rfl, hb5⟩
  rw [show strOfNums (decT b) = dB b from rfl]
  have hB5 := below_seq (below_seq hB3 hb4) hb5
  clear HDA HDB
  generalize dB a = A at *
  generalize dB b = B at *
  go_wp2_with (go_at_call 16; (with_reducible refine (round_any k 7 1 _ (by decide) (by decide) HK.out).mono ?_); rintro e w' ⟨rfl, rfl⟩)
  refine (nodes5_any _ _ HZ2.out).mono ?_
  rintro e w6 ⟨⟨v6, rfl, hv6⟩, hb6⟩
  go_wp2_with fail
  refine (parse_any hv6 HS2.out HN2.out).mono ?_
  rintro e w7 ⟨rfl, hb7⟩
  rw [HP2.out]
  have hB7 := below_seq (below_seq hB5 hb6) hb7
  have HT := Lib.hid (HT0.out.below hB7)
  clear hv6
  go_wp2_with (go_at_call 7; (with_reducible refine (awake5_any _ HT.out).mono ?_); rintro e w9 ⟨rfl, hb9⟩)
  go_ret
  exact ⟨rfl, below_seq hB7 hb9⟩
set_option maxRecDepth 100000 in
set_option maxHeartbeats 3200000 in
theorem back_p2 (w : World) (a b k : Int) (ht : Tab w) (ha : -2147483648 ≤ a ∧ a < 2147483648) (hb : -2147483648 < b ∧ b < 2147483648) (h0 : a ≠ 0) (hs : 0 < b) (hk : k % 7 = 2) :
    Calls Tryd.prog 4 #[.int .i64 a, .int .i64 b, .int .i64 k] w fun e w' => e = .returned (.bool true) ∧ Below w.heap.size w w' := by
  have hbm : ((b.natAbs : Nat) : Int) = b := by omega
  have HP1 := Lib.hid (show parseS (ndsS (toks (readS (textS a b)))) = (a, b, true) by
    have h := tx_p a b.natAbs ha h0 (by omega) (by omega)
    rw [hbm] at h
    exact h)
  have HP2 := Lib.hid (show parseS (ndsS (toks (readS (dB a ++ ⟨#[110]⟩ ++ ⟨#[43]⟩ ++ ⟨#[32]⟩ ++ dB b)))) = (a, b, true) by
    have h := ps_p2 a b.natAbs ha (by omega)
    unfold txt_p2 at h
    rw [hbm] at h
    exact h)
  have HT0 := Lib.hid ht
  have hs1 := textS_sz a b (by omega) (by omega)
  have HZ1 := Lib.hid (show (textS a b).size ≤ 5000000 by omega)
  have HN1 := Lib.hid (nds_text5 (textS a b) (by omega))
  have HS1 := Lib.hid (nds_sz5 (textS a b) (by omega))
  have HTX := Lib.hid (text_any a b w ⟨by omega, by omega⟩ ⟨by omega, by omega⟩ HT0.out)
  clear ht hs1
  have hza := dB_sz a (by omega)
  have hzb := dB_sz b (by omega)
  have hs2 : (dB a ++ ⟨#[110]⟩ ++ ⟨#[43]⟩ ++ ⟨#[32]⟩ ++ dB b : ByteArray).size ≤ 200 := by
    simp only [ByteArray.size_append]
    show (dB a).size + 1 + 1 + 1 + (dB b).size ≤ 200
    omega
  have HZ2 := Lib.hid (show (dB a ++ ⟨#[110]⟩ ++ ⟨#[43]⟩ ++ ⟨#[32]⟩ ++ dB b : ByteArray).size ≤ 5000000 by omega)
  have HN2 := Lib.hid (nds_text5 (dB a ++ ⟨#[110]⟩ ++ ⟨#[43]⟩ ++ ⟨#[32]⟩ ++ dB b) (by omega))
  have HS2 := Lib.hid (nds_sz5 (dB a ++ ⟨#[110]⟩ ++ ⟨#[43]⟩ ++ ⟨#[32]⟩ ++ dB b) (by omega))
  have HK := Lib.hid hk
  have h0' : (a == 0) = false := by simpa using h0
  have hb0 : ¬ b = 0 := by omega
  have hb0' : (b == 0) = false := by simpa using hb0
  have hbs : ¬ b < 0 := by omega
  have HDA := fun w => Lib.hid (decimal_any a w (by omega))
  have HDB := fun w => Lib.hid (decimal_any b w (by omega))
  clear hk hs2 hbm hs
  obtain ⟨ha1, ha2⟩ := ha
  obtain ⟨hb1', hb2'⟩ := hb
  generalize textS a b = s1 at *
  go_enter Tryd.func4, Tryd.ntmps4
  go_wp2_with fail
  refine HTX.out.mono ?_
  rintro e w1 ⟨rfl, hb1⟩
  go_wp2_with fail
  refine (nodes5_any _ _ HZ1.out).mono ?_
  rintro e w2 ⟨⟨v2, rfl, hv2⟩, hb2⟩
  go_wp2_with fail
  refine (parse_any hv2 HS1.out HN1.out).mono ?_
  rintro e w3 ⟨rfl, hb3⟩
  rw [HP1.out]
  have hB3 := below_seq (below_seq hb1 hb2) hb3
  clear hv2
  go_wp2_with fail
  refine (HDA _).out.mono ?_
  rintro e w4 ⟨rfl, hb4⟩
  rw [show strOfNums (decT a) = dB a from rfl]
  go_wp2_with fail
  refine (HDB _).out.mono ?_
  rintro e w5 ⟨rfl, hb5⟩
  rw [show strOfNums (decT b) = dB b from rfl]
  have hB5 := below_seq (below_seq hB3 hb4) hb5
  clear HDA HDB
  generalize dB a = A at *
  generalize dB b = B at *
  go_wp2_with (go_at_call 16; (with_reducible refine (round_any k 7 2 _ (by decide) (by decide) HK.out).mono ?_); rintro e w' ⟨rfl, rfl⟩)
  refine (nodes5_any _ _ HZ2.out).mono ?_
  rintro e w6 ⟨⟨v6, rfl, hv6⟩, hb6⟩
  go_wp2_with fail
  refine (parse_any hv6 HS2.out HN2.out).mono ?_
  rintro e w7 ⟨rfl, hb7⟩
  rw [HP2.out]
  have hB7 := below_seq (below_seq hB5 hb6) hb7
  have HT := Lib.hid (HT0.out.below hB7)
  clear hv6
  go_wp2_with (go_at_call 7; (with_reducible refine (awake5_any _ HT.out).mono ?_); rintro e w9 ⟨rfl, hb9⟩)
  go_ret
  exact ⟨rfl, below_seq hB7 hb9⟩
set_option maxRecDepth 100000 in
set_option maxHeartbeats 3200000 in
theorem back_p3 (w : World) (a b k : Int) (ht : Tab w) (ha : -2147483648 ≤ a ∧ a < 2147483648) (hb : -2147483648 < b ∧ b < 2147483648) (h0 : a ≠ 0) (hs : 0 < b) (hk : k % 7 = 3) :
    Calls Tryd.prog 4 #[.int .i64 a, .int .i64 b, .int .i64 k] w fun e w' => e = .returned (.bool true) ∧ Below w.heap.size w w' := by
  have hbm : ((b.natAbs : Nat) : Int) = b := by omega
  have HP1 := Lib.hid (show parseS (ndsS (toks (readS (textS a b)))) = (a, b, true) by
    have h := tx_p a b.natAbs ha h0 (by omega) (by omega)
    rw [hbm] at h
    exact h)
  have HP2 := Lib.hid (show parseS (ndsS (toks (readS (dB a ++ ⟨#[32, 110]⟩ ++ ⟨#[43]⟩ ++ dB b)))) = (0, 0, false) by
    have h := ps_p3 a b.natAbs ha (by omega)
    unfold txt_p3 at h
    rw [hbm] at h
    exact h)
  have HT0 := Lib.hid ht
  have hs1 := textS_sz a b (by omega) (by omega)
  have HZ1 := Lib.hid (show (textS a b).size ≤ 5000000 by omega)
  have HN1 := Lib.hid (nds_text5 (textS a b) (by omega))
  have HS1 := Lib.hid (nds_sz5 (textS a b) (by omega))
  have HTX := Lib.hid (text_any a b w ⟨by omega, by omega⟩ ⟨by omega, by omega⟩ HT0.out)
  clear ht hs1
  have hza := dB_sz a (by omega)
  have hzb := dB_sz b (by omega)
  have hs2 : (dB a ++ ⟨#[32, 110]⟩ ++ ⟨#[43]⟩ ++ dB b : ByteArray).size ≤ 200 := by
    simp only [ByteArray.size_append]
    show (dB a).size + 2 + 1 + (dB b).size ≤ 200
    omega
  have HZ2 := Lib.hid (show (dB a ++ ⟨#[32, 110]⟩ ++ ⟨#[43]⟩ ++ dB b : ByteArray).size ≤ 5000000 by omega)
  have HN2 := Lib.hid (nds_text5 (dB a ++ ⟨#[32, 110]⟩ ++ ⟨#[43]⟩ ++ dB b) (by omega))
  have HS2 := Lib.hid (nds_sz5 (dB a ++ ⟨#[32, 110]⟩ ++ ⟨#[43]⟩ ++ dB b) (by omega))
  have HK := Lib.hid hk
  have h0' : (a == 0) = false := by simpa using h0
  have hb0 : ¬ b = 0 := by omega
  have hb0' : (b == 0) = false := by simpa using hb0
  have hbs : ¬ b < 0 := by omega
  have HDA := fun w => Lib.hid (decimal_any a w (by omega))
  have HDB := fun w => Lib.hid (decimal_any b w (by omega))
  clear hk hs2 hbm hs
  obtain ⟨ha1, ha2⟩ := ha
  obtain ⟨hb1', hb2'⟩ := hb
  generalize textS a b = s1 at *
  go_enter Tryd.func4, Tryd.ntmps4
  go_wp2_with fail
  refine HTX.out.mono ?_
  rintro e w1 ⟨rfl, hb1⟩
  go_wp2_with fail
  refine (nodes5_any _ _ HZ1.out).mono ?_
  rintro e w2 ⟨⟨v2, rfl, hv2⟩, hb2⟩
  go_wp2_with fail
  refine (parse_any hv2 HS1.out HN1.out).mono ?_
  rintro e w3 ⟨rfl, hb3⟩
  rw [HP1.out]
  have hB3 := below_seq (below_seq hb1 hb2) hb3
  clear hv2
  go_wp2_with fail
  refine (HDA _).out.mono ?_
  rintro e w4 ⟨rfl, hb4⟩
  rw [show strOfNums (decT a) = dB a from rfl]
  go_wp2_with fail
  refine (HDB _).out.mono ?_
  rintro e w5 ⟨rfl, hb5⟩
  rw [show strOfNums (decT b) = dB b from rfl]
  have hB5 := below_seq (below_seq hB3 hb4) hb5
  clear HDA HDB
  generalize dB a = A at *
  generalize dB b = B at *
  go_wp2_with (go_at_call 16; (with_reducible refine (round_any k 7 3 _ (by decide) (by decide) HK.out).mono ?_); rintro e w' ⟨rfl, rfl⟩)
  refine (nodes5_any _ _ HZ2.out).mono ?_
  rintro e w6 ⟨⟨v6, rfl, hv6⟩, hb6⟩
  go_wp2_with fail
  refine (parse_any hv6 HS2.out HN2.out).mono ?_
  rintro e w7 ⟨rfl, hb7⟩
  rw [HP2.out]
  have hB7 := below_seq (below_seq hB5 hb6) hb7
  have HT := Lib.hid (HT0.out.below hB7)
  clear hv6
  go_wp2_with (go_at_call 7; (with_reducible refine (awake5_any _ HT.out).mono ?_); rintro e w9 ⟨rfl, hb9⟩)
  go_ret
  exact ⟨rfl, below_seq hB7 hb9⟩
set_option maxRecDepth 100000 in
set_option maxHeartbeats 3200000 in
theorem back_p4 (w : World) (a b k : Int) (ht : Tab w) (ha : -2147483648 ≤ a ∧ a < 2147483648) (hb : -2147483648 < b ∧ b < 2147483648) (h0 : a ≠ 0) (hs : 0 < b) (hk : k % 7 = 4) :
    Calls Tryd.prog 4 #[.int .i64 a, .int .i64 b, .int .i64 k] w fun e w' => e = .returned (.bool true) ∧ Below w.heap.size w w' := by
  have hbm : ((b.natAbs : Nat) : Int) = b := by omega
  have HP1 := Lib.hid (show parseS (ndsS (toks (readS (textS a b)))) = (a, b, true) by
    have h := tx_p a b.natAbs ha h0 (by omega) (by omega)
    rw [hbm] at h
    exact h)
  have HP2 := Lib.hid (show parseS (ndsS (toks (readS (dB a ++ ⟨#[110, 32]⟩ ++ dB b)))) = (0, 0, false) by
    have h := ps_p4 a b.natAbs ha (by omega)
    unfold txt_p4 at h
    rw [hbm] at h
    exact h)
  have HT0 := Lib.hid ht
  have hs1 := textS_sz a b (by omega) (by omega)
  have HZ1 := Lib.hid (show (textS a b).size ≤ 5000000 by omega)
  have HN1 := Lib.hid (nds_text5 (textS a b) (by omega))
  have HS1 := Lib.hid (nds_sz5 (textS a b) (by omega))
  have HTX := Lib.hid (text_any a b w ⟨by omega, by omega⟩ ⟨by omega, by omega⟩ HT0.out)
  clear ht hs1
  have hza := dB_sz a (by omega)
  have hzb := dB_sz b (by omega)
  have hs2 : (dB a ++ ⟨#[110, 32]⟩ ++ dB b : ByteArray).size ≤ 200 := by
    simp only [ByteArray.size_append]
    show (dB a).size + 2 + (dB b).size ≤ 200
    omega
  have HZ2 := Lib.hid (show (dB a ++ ⟨#[110, 32]⟩ ++ dB b : ByteArray).size ≤ 5000000 by omega)
  have HN2 := Lib.hid (nds_text5 (dB a ++ ⟨#[110, 32]⟩ ++ dB b) (by omega))
  have HS2 := Lib.hid (nds_sz5 (dB a ++ ⟨#[110, 32]⟩ ++ dB b) (by omega))
  have HK := Lib.hid hk
  have h0' : (a == 0) = false := by simpa using h0
  have hb0 : ¬ b = 0 := by omega
  have hb0' : (b == 0) = false := by simpa using hb0
  have hbs : ¬ b < 0 := by omega
  have HDA := fun w => Lib.hid (decimal_any a w (by omega))
  have HDB := fun w => Lib.hid (decimal_any b w (by omega))
  clear hk hs2 hbm hs
  obtain ⟨ha1, ha2⟩ := ha
  obtain ⟨hb1', hb2'⟩ := hb
  generalize textS a b = s1 at *
  go_enter Tryd.func4, Tryd.ntmps4
  go_wp2_with fail
  refine HTX.out.mono ?_
  rintro e w1 ⟨rfl, hb1⟩
  go_wp2_with fail
  refine (nodes5_any _ _ HZ1.out).mono ?_
  rintro e w2 ⟨⟨v2, rfl, hv2⟩, hb2⟩
  go_wp2_with fail
  refine (parse_any hv2 HS1.out HN1.out).mono ?_
  rintro e w3 ⟨rfl, hb3⟩
  rw [HP1.out]
  have hB3 := below_seq (below_seq hb1 hb2) hb3
  clear hv2
  go_wp2_with fail
  refine (HDA _).out.mono ?_
  rintro e w4 ⟨rfl, hb4⟩
  rw [show strOfNums (decT a) = dB a from rfl]
  go_wp2_with fail
  refine (HDB _).out.mono ?_
  rintro e w5 ⟨rfl, hb5⟩
  rw [show strOfNums (decT b) = dB b from rfl]
  have hB5 := below_seq (below_seq hB3 hb4) hb5
  clear HDA HDB
  generalize dB a = A at *
  generalize dB b = B at *
  go_wp2_with (go_at_call 16; (with_reducible refine (round_any k 7 4 _ (by decide) (by decide) HK.out).mono ?_); rintro e w' ⟨rfl, rfl⟩)
  refine (nodes5_any _ _ HZ2.out).mono ?_
  rintro e w6 ⟨⟨v6, rfl, hv6⟩, hb6⟩
  go_wp2_with fail
  refine (parse_any hv6 HS2.out HN2.out).mono ?_
  rintro e w7 ⟨rfl, hb7⟩
  rw [HP2.out]
  have hB7 := below_seq (below_seq hB5 hb6) hb7
  have HT := Lib.hid (HT0.out.below hB7)
  clear hv6
  go_wp2_with (go_at_call 7; (with_reducible refine (awake5_any _ HT.out).mono ?_); rintro e w9 ⟨rfl, hb9⟩)
  go_ret
  exact ⟨rfl, below_seq hB7 hb9⟩
set_option maxRecDepth 100000 in
set_option maxHeartbeats 3200000 in
theorem back_p5 (w : World) (a b k : Int) (ht : Tab w) (ha : -2147483648 ≤ a ∧ a < 2147483648) (hb : -2147483648 < b ∧ b < 2147483648) (h0 : a ≠ 0) (hs : 0 < b) (hk : k % 7 = 5) :
    Calls Tryd.prog 4 #[.int .i64 a, .int .i64 b, .int .i64 k] w fun e w' => e = .returned (.bool true) ∧ Below w.heap.size w w' := by
  have hbm : ((b.natAbs : Nat) : Int) = b := by omega
  have HP1 := Lib.hid (show parseS (ndsS (toks (readS (textS a b)))) = (a, b, true) by
    have h := tx_p a b.natAbs ha h0 (by omega) (by omega)
    rw [hbm] at h
    exact h)
  have HP2 := Lib.hid (show parseS (ndsS (toks (readS (dB a ++ ⟨#[110, 32]⟩ ++ ⟨#[43]⟩ ++ ⟨#[32]⟩ ++ ⟨#[43]⟩ ++ dB b)))) = (0, 0, false) by
    have h := ps_p5 a b.natAbs ha (by omega)
    unfold txt_p5 at h
    rw [hbm] at h
    exact h)
  have HT0 := Lib.hid ht
  have hs1 := textS_sz a b (by omega) (by omega)
  have HZ1 := Lib.hid (show (textS a b).size ≤ 5000000 by omega)
  have HN1 := Lib.hid (nds_text5 (textS a b) (by omega))
  have HS1 := Lib.hid (nds_sz5 (textS a b) (by omega))
  have HTX := Lib.hid (text_any a b w ⟨by omega, by omega⟩ ⟨by omega, by omega⟩ HT0.out)
  clear ht hs1
  have hza := dB_sz a (by omega)
  have hzb := dB_sz b (by omega)
  have hs2 : (dB a ++ ⟨#[110, 32]⟩ ++ ⟨#[43]⟩ ++ ⟨#[32]⟩ ++ ⟨#[43]⟩ ++ dB b : ByteArray).size ≤ 200 := by
    simp only [ByteArray.size_append]
    show (dB a).size + 2 + 1 + 1 + 1 + (dB b).size ≤ 200
    omega
  have HZ2 := Lib.hid (show (dB a ++ ⟨#[110, 32]⟩ ++ ⟨#[43]⟩ ++ ⟨#[32]⟩ ++ ⟨#[43]⟩ ++ dB b : ByteArray).size ≤ 5000000 by omega)
  have HN2 := Lib.hid (nds_text5 (dB a ++ ⟨#[110, 32]⟩ ++ ⟨#[43]⟩ ++ ⟨#[32]⟩ ++ ⟨#[43]⟩ ++ dB b) (by omega))
  have HS2 := Lib.hid (nds_sz5 (dB a ++ ⟨#[110, 32]⟩ ++ ⟨#[43]⟩ ++ ⟨#[32]⟩ ++ ⟨#[43]⟩ ++ dB b) (by omega))
  have HK := Lib.hid hk
  have h0' : (a == 0) = false := by simpa using h0
  have hb0 : ¬ b = 0 := by omega
  have hb0' : (b == 0) = false := by simpa using hb0
  have hbs : ¬ b < 0 := by omega
  have HDA := fun w => Lib.hid (decimal_any a w (by omega))
  have HDB := fun w => Lib.hid (decimal_any b w (by omega))
  clear hk hs2 hbm hs
  obtain ⟨ha1, ha2⟩ := ha
  obtain ⟨hb1', hb2'⟩ := hb
  generalize textS a b = s1 at *
  go_enter Tryd.func4, Tryd.ntmps4
  go_wp2_with fail
  refine HTX.out.mono ?_
  rintro e w1 ⟨rfl, hb1⟩
  go_wp2_with fail
  refine (nodes5_any _ _ HZ1.out).mono ?_
  rintro e w2 ⟨⟨v2, rfl, hv2⟩, hb2⟩
  go_wp2_with fail
  refine (parse_any hv2 HS1.out HN1.out).mono ?_
  rintro e w3 ⟨rfl, hb3⟩
  rw [HP1.out]
  have hB3 := below_seq (below_seq hb1 hb2) hb3
  clear hv2
  go_wp2_with fail
  refine (HDA _).out.mono ?_
  rintro e w4 ⟨rfl, hb4⟩
  rw [show strOfNums (decT a) = dB a from rfl]
  go_wp2_with fail
  refine (HDB _).out.mono ?_
  rintro e w5 ⟨rfl, hb5⟩
  rw [show strOfNums (decT b) = dB b from rfl]
  have hB5 := below_seq (below_seq hB3 hb4) hb5
  clear HDA HDB
  generalize dB a = A at *
  generalize dB b = B at *
  go_wp2_with (go_at_call 16; (with_reducible refine (round_any k 7 5 _ (by decide) (by decide) HK.out).mono ?_); rintro e w' ⟨rfl, rfl⟩)
  refine (nodes5_any _ _ HZ2.out).mono ?_
  rintro e w6 ⟨⟨v6, rfl, hv6⟩, hb6⟩
  go_wp2_with fail
  refine (parse_any hv6 HS2.out HN2.out).mono ?_
  rintro e w7 ⟨rfl, hb7⟩
  rw [HP2.out]
  have hB7 := below_seq (below_seq hB5 hb6) hb7
  have HT := Lib.hid (HT0.out.below hB7)
  clear hv6
  go_wp2_with (go_at_call 7; (with_reducible refine (awake5_any _ HT.out).mono ?_); rintro e w9 ⟨rfl, hb9⟩)
  go_ret
  exact ⟨rfl, below_seq hB7 hb9⟩
set_option maxRecDepth 100000 in
set_option maxHeartbeats 3200000 in
theorem back_p6 (w : World) (a b k : Int) (ht : Tab w) (ha : -2147483648 ≤ a ∧ a < 2147483648) (hb : -2147483648 < b ∧ b < 2147483648) (h0 : a ≠ 0) (hs : 0 < b) (hk : k % 7 = 6) :
    Calls Tryd.prog 4 #[.int .i64 a, .int .i64 b, .int .i64 k] w fun e w' => e = .returned (.bool true) ∧ Below w.heap.size w w' := by
  have hbm : ((b.natAbs : Nat) : Int) = b := by omega
  have HP1 := Lib.hid (show parseS (ndsS (toks (readS (textS a b)))) = (a, b, true) by
    have h := tx_p a b.natAbs ha h0 (by omega) (by omega)
    rw [hbm] at h
    exact h)
  have HP2 := Lib.hid (show parseS (ndsS (toks (readS (dB a ++ ⟨#[110]⟩ ++ ⟨#[43]⟩ ++ dB b ++ ⟨#[32, 49]⟩)))) = (0, 0, false) by
    have h := ps_p6 a b.natAbs ha (by omega)
    unfold txt_p6 at h
    rw [hbm] at h
    exact h)
  have HT0 := Lib.hid ht
  have hs1 := textS_sz a b (by omega) (by omega)
  have HZ1 := Lib.hid (show (textS a b).size ≤ 5000000 by omega)
  have HN1 := Lib.hid (nds_text5 (textS a b) (by omega))
  have HS1 := Lib.hid (nds_sz5 (textS a b) (by omega))
  have HTX := Lib.hid (text_any a b w ⟨by omega, by omega⟩ ⟨by omega, by omega⟩ HT0.out)
  clear ht hs1
  have hza := dB_sz a (by omega)
  have hzb := dB_sz b (by omega)
  have hs2 : (dB a ++ ⟨#[110]⟩ ++ ⟨#[43]⟩ ++ dB b ++ ⟨#[32, 49]⟩ : ByteArray).size ≤ 200 := by
    simp only [ByteArray.size_append]
    show (dB a).size + 1 + 1 + (dB b).size + 2 ≤ 200
    omega
  have HZ2 := Lib.hid (show (dB a ++ ⟨#[110]⟩ ++ ⟨#[43]⟩ ++ dB b ++ ⟨#[32, 49]⟩ : ByteArray).size ≤ 5000000 by omega)
  have HN2 := Lib.hid (nds_text5 (dB a ++ ⟨#[110]⟩ ++ ⟨#[43]⟩ ++ dB b ++ ⟨#[32, 49]⟩) (by omega))
  have HS2 := Lib.hid (nds_sz5 (dB a ++ ⟨#[110]⟩ ++ ⟨#[43]⟩ ++ dB b ++ ⟨#[32, 49]⟩) (by omega))
  have HK := Lib.hid hk
  have h0' : (a == 0) = false := by simpa using h0
  have hb0 : ¬ b = 0 := by omega
  have hb0' : (b == 0) = false := by simpa using hb0
  have hbs : ¬ b < 0 := by omega
  have HDA := fun w => Lib.hid (decimal_any a w (by omega))
  have HDB := fun w => Lib.hid (decimal_any b w (by omega))
  clear hk hs2 hbm hs
  obtain ⟨ha1, ha2⟩ := ha
  obtain ⟨hb1', hb2'⟩ := hb
  generalize textS a b = s1 at *
  go_enter Tryd.func4, Tryd.ntmps4
  go_wp2_with fail
  refine HTX.out.mono ?_
  rintro e w1 ⟨rfl, hb1⟩
  go_wp2_with fail
  refine (nodes5_any _ _ HZ1.out).mono ?_
  rintro e w2 ⟨⟨v2, rfl, hv2⟩, hb2⟩
  go_wp2_with fail
  refine (parse_any hv2 HS1.out HN1.out).mono ?_
  rintro e w3 ⟨rfl, hb3⟩
  rw [HP1.out]
  have hB3 := below_seq (below_seq hb1 hb2) hb3
  clear hv2
  go_wp2_with fail
  refine (HDA _).out.mono ?_
  rintro e w4 ⟨rfl, hb4⟩
  rw [show strOfNums (decT a) = dB a from rfl]
  go_wp2_with fail
  refine (HDB _).out.mono ?_
  rintro e w5 ⟨rfl, hb5⟩
  rw [show strOfNums (decT b) = dB b from rfl]
  have hB5 := below_seq (below_seq hB3 hb4) hb5
  clear HDA HDB
  generalize dB a = A at *
  generalize dB b = B at *
  go_wp2_with (go_at_call 16; (with_reducible refine (round_any k 7 6 _ (by decide) (by decide) HK.out).mono ?_); rintro e w' ⟨rfl, rfl⟩)
  refine (nodes5_any _ _ HZ2.out).mono ?_
  rintro e w6 ⟨⟨v6, rfl, hv6⟩, hb6⟩
  go_wp2_with fail
  refine (parse_any hv6 HS2.out HN2.out).mono ?_
  rintro e w7 ⟨rfl, hb7⟩
  rw [HP2.out]
  have hB7 := below_seq (below_seq hB5 hb6) hb7
  have HT := Lib.hid (HT0.out.below hB7)
  clear hv6
  go_wp2_with (go_at_call 7; (with_reducible refine (awake5_any _ HT.out).mono ?_); rintro e w9 ⟨rfl, hb9⟩)
  go_ret
  exact ⟨rfl, below_seq hB7 hb9⟩
theorem AnbBack_any (w : World) (ht : Tab w) (a : Int) (_wa : (Lit.int .i64 a).wf = true) (b : Int) (_wb : (Lit.int .i64 b).wf = true) (k : Int) (_wk : (Lit.int .i64 k).wf = true) :
    Calls Tryd.prog 4 #[.int .i64 a, .int .i64 b, .int .i64 k] w fun e w' => e = .returned (.bool true) ∧ Below w.heap.size w w' := by
  by_cases h : a < -2147483648 ∨ 2147483648 ≤ a ∨ b ≤ -2147483648 ∨ 2147483648 ≤ b
  · exact back_out w a b k ht h
  have ha : -2147483648 ≤ a ∧ a < 2147483648 := by omega
  have hb : -2147483648 < b ∧ b < 2147483648 := by omega
  clear h
  by_cases h0 : a = 0
  · subst h0
    exact back_a0 w b k ht hb
  by_cases h1 : b = 0
  · subst h1
    exact back_b0 w a k ht ha h0
  have k0 := Int.emod_nonneg k (show (7 : Int) ≠ 0 by decide)
  have k1 := Int.emod_lt_of_pos k (show (0 : Int) < 7 by decide)
  have hk : k % 7 = 0 ∨ k % 7 = 1 ∨ k % 7 = 2 ∨ k % 7 = 3 ∨ k % 7 = 4 ∨ k % 7 = 5 ∨ k % 7 = 6 := by omega
  by_cases hp : 0 < b
  · rcases hk with hk | hk | hk | hk | hk | hk | hk
    · exact back_p0 w a b k ht ha hb h0 hp hk
    · exact back_p1 w a b k ht ha hb h0 hp hk
    · exact back_p2 w a b k ht ha hb h0 hp hk
    · exact back_p3 w a b k ht ha hb h0 hp hk
    · exact back_p4 w a b k ht ha hb h0 hp hk
    · exact back_p5 w a b k ht ha hb h0 hp hk
    · exact back_p6 w a b k ht ha hb h0 hp hk
  · have hn : b < 0 := by omega
    rcases hk with hk | hk | hk | hk | hk | hk | hk
    · exact back_m0 w a b k ht ha hb h0 hn hk
    · exact back_m1 w a b k ht ha hb h0 hn hk
    · exact back_m2 w a b k ht ha hb h0 hn hk
    · exact back_m3 w a b k ht ha hb h0 hn hk
    · exact back_m4 w a b k ht ha hb h0 hn hk
    · exact back_m5 w a b k ht ha hb h0 hn hk
    · exact back_m6 w a b k ht ha hb h0 hn hk
end Go.Proofs.YtlajkfnlkkgneaaDoor
