
import Derived.Test.YtlajkfnlkkgneaaDoorAnT
namespace Go.Proofs.YtlajkfnlkkgneaaDoor
open Go.RowKit Go.Shelf
theorem dB_size (n : Int) (h : -2147483648 ≤ n ∧ n < 2147483648) : (dB n).size ≤ 21 := (decT_size n (by omega)).2
set_option maxRecDepth 100000 in
set_option maxHeartbeats 1600000 in
theorem words_out (w : World) (n k : Int) (ht : Tab w) (h : n < -2147483648 ∨ 2147483648 ≤ n) :
    Calls Tryd.prog 6 #[.int .i64 n, .int .i64 k] w fun e w' => e = .returned (.bool true) ∧ Below w.heap.size w w' := by
  have HT := Lib.hid ht
  clear ht
  by_cases c : n < -2147483648
  · go_enter Tryd.func6, Tryd.ntmps6
    go_wp2_with (go_at_call 7; (with_reducible refine (awake5_any _ HT.out).mono ?_); rintro e w9 ⟨rfl, hb9⟩)
    go_ret
    exact ⟨rfl, hb9⟩
  · have c2 : 2147483648 ≤ n := by omega
    go_enter Tryd.func6, Tryd.ntmps6
    go_wp2_with (go_at_call 7; (with_reducible refine (awake5_any _ HT.out).mono ?_); rintro e w9 ⟨rfl, hb9⟩)
    go_ret
    exact ⟨rfl, hb9⟩
set_option maxRecDepth 100000 in
set_option maxHeartbeats 3200000 in
theorem words_0 (w : World) (n k : Int) (ht : Tab w) (h : -2147483648 ≤ n ∧ n < 2147483648) (hk : k % 12 = 0) :
    Calls Tryd.prog 6 #[.int .i64 n, .int .i64 k] w fun e w' => e = .returned (.bool true) ∧ Below w.heap.size w w' := by
  have HZ := Lib.hid (dB_size n h)
  have HW := Lib.hid (wd_0 n h)
  have hsz : (dB n : ByteArray).size ≤ 5000000 := by have := HZ.out; omega
  have HSZ := Lib.hid hsz
  have HN5 := Lib.hid (nds_text5 _ (show (dB n : ByteArray).size ≤ 100000000 by omega))
  have HS5 := Lib.hid (nds_sz5 _ (show (dB n : ByteArray).size ≤ 100000000 by omega))
  clear hsz
  obtain ⟨n1, n2⟩ := h
  have HT0 := Lib.hid ht
  have hz := HZ.out
  clear ht
  go_enter Tryd.func6, Tryd.ntmps6
  go_wp2_with fail
  refine (decimal_any n _ (by omega)).mono ?_
  rintro e w1 ⟨rfl, hb1⟩
  rw [show strOfNums (decT n) = dB n from rfl]
  have hq0 := hz
  generalize dB n = d at *
  have HK := Lib.hid hk
  clear hk
  have HG := heap_alloc_self w1
  go_wp2_with (go_at_call 16; (with_reducible refine (round_any k 12 0 _ (by decide) (by decide) HK.out).mono ?_); rintro e w' ⟨rfl, rfl⟩)
  refine (nodes5_any _ _ HSZ.out).mono ?_
  rintro e w2 ⟨⟨v2, rfl, hv2⟩, hb2⟩
  have hB2 := below_seq (below_seq hb1 (below_al w1 _)) hb2
  go_wp2_with fail
  refine (parse_any hv2 HS5.out HN5.out).mono ?_
  rintro e w3 ⟨rfl, hb3⟩
  rw [HW.out]
  have hB3 := below_seq hB2 hb3
  have HT := Lib.hid (HT0.out.below hB3)
  go_wp2_with (go_at_call 7; (with_reducible refine (awake5_any _ HT.out).mono ?_); rintro e w9 ⟨rfl, hb9⟩)
  go_ret
  exact ⟨rfl, below_seq hB3 hb9⟩
set_option maxRecDepth 100000 in
set_option maxHeartbeats 3200000 in
theorem words_1 (w : World) (n k : Int) (ht : Tab w) (h : -2147483648 ≤ n ∧ n < 2147483648) (hk : k % 12 = 1) :
    Calls Tryd.prog 6 #[.int .i64 n, .int .i64 k] w fun e w' => e = .returned (.bool true) ∧ Below w.heap.size w w' := by
  have HZ := Lib.hid (dB_size n h)
  have HW := Lib.hid (wd_1)
  have hsz : (⟨#[111, 68, 100]⟩ : ByteArray).size ≤ 5000000 := by decide
  have HSZ := Lib.hid hsz
  have HN5 := Lib.hid (nds_text5 _ (show (⟨#[111, 68, 100]⟩ : ByteArray).size ≤ 100000000 by omega))
  have HS5 := Lib.hid (nds_sz5 _ (show (⟨#[111, 68, 100]⟩ : ByteArray).size ≤ 100000000 by omega))
  clear hsz
  obtain ⟨n1, n2⟩ := h
  have HT0 := Lib.hid ht
  have hz := HZ.out
  clear ht
  go_enter Tryd.func6, Tryd.ntmps6
  go_wp2_with fail
  refine (decimal_any n _ (by omega)).mono ?_
  rintro e w1 ⟨rfl, hb1⟩
  rw [show strOfNums (decT n) = dB n from rfl]
  have hq0 := hz
  generalize dB n = d at *
  have HK := Lib.hid hk
  clear hk
  have HG := heap_alloc_self w1
  go_wp2_with (go_at_call 16; (with_reducible refine (round_any k 12 1 _ (by decide) (by decide) HK.out).mono ?_); rintro e w' ⟨rfl, rfl⟩)
  refine (nodes5_any _ _ HSZ.out).mono ?_
  rintro e w2 ⟨⟨v2, rfl, hv2⟩, hb2⟩
  have hB2 := below_seq (below_seq hb1 (below_al w1 _)) hb2
  go_wp2_with fail
  refine (parse_any hv2 HS5.out HN5.out).mono ?_
  rintro e w3 ⟨rfl, hb3⟩
  rw [HW.out]
  have hB3 := below_seq hB2 hb3
  have HT := Lib.hid (HT0.out.below hB3)
  go_wp2_with (go_at_call 7; (with_reducible refine (awake5_any _ HT.out).mono ?_); rintro e w9 ⟨rfl, hb9⟩)
  go_ret
  exact ⟨rfl, below_seq hB3 hb9⟩
set_option maxRecDepth 100000 in
set_option maxHeartbeats 3200000 in
theorem words_2 (w : World) (n k : Int) (ht : Tab w) (h : -2147483648 ≤ n ∧ n < 2147483648) (hk : k % 12 = 2) :
    Calls Tryd.prog 6 #[.int .i64 n, .int .i64 k] w fun e w' => e = .returned (.bool true) ∧ Below w.heap.size w w' := by
  have HZ := Lib.hid (dB_size n h)
  have HW := Lib.hid (wd_2)
  have hsz : (⟨#[32, 69, 86, 69, 78, 32]⟩ : ByteArray).size ≤ 5000000 := by decide
  have HSZ := Lib.hid hsz
  have HN5 := Lib.hid (nds_text5 _ (show (⟨#[32, 69, 86, 69, 78, 32]⟩ : ByteArray).size ≤ 100000000 by omega))
  have HS5 := Lib.hid (nds_sz5 _ (show (⟨#[32, 69, 86, 69, 78, 32]⟩ : ByteArray).size ≤ 100000000 by omega))
  clear hsz
  obtain ⟨n1, n2⟩ := h
  have HT0 := Lib.hid ht
  have hz := HZ.out
  clear ht
  go_enter Tryd.func6, Tryd.ntmps6
  go_wp2_with fail
  refine (decimal_any n _ (by omega)).mono ?_
  rintro e w1 ⟨rfl, hb1⟩
  rw [show strOfNums (decT n) = dB n from rfl]
  have hq0 := hz
  generalize dB n = d at *
  have HK := Lib.hid hk
  clear hk
  have HG := heap_alloc_self w1
  go_wp2_with (go_at_call 16; (with_reducible refine (round_any k 12 2 _ (by decide) (by decide) HK.out).mono ?_); rintro e w' ⟨rfl, rfl⟩)
  refine (nodes5_any _ _ HSZ.out).mono ?_
  rintro e w2 ⟨⟨v2, rfl, hv2⟩, hb2⟩
  have hB2 := below_seq (below_seq hb1 (below_al w1 _)) hb2
  go_wp2_with fail
  refine (parse_any hv2 HS5.out HN5.out).mono ?_
  rintro e w3 ⟨rfl, hb3⟩
  rw [HW.out]
  have hB3 := below_seq hB2 hb3
  have HT := Lib.hid (HT0.out.below hB3)
  go_wp2_with (go_at_call 7; (with_reducible refine (awake5_any _ HT.out).mono ?_); rintro e w9 ⟨rfl, hb9⟩)
  go_ret
  exact ⟨rfl, below_seq hB3 hb9⟩
set_option maxRecDepth 100000 in
set_option maxHeartbeats 3200000 in
theorem words_3 (w : World) (n k : Int) (ht : Tab w) (h : -2147483648 ≤ n ∧ n < 2147483648) (hk : k % 12 = 3) :
    Calls Tryd.prog 6 #[.int .i64 n, .int .i64 k] w fun e w' => e = .returned (.bool true) ∧ Below w.heap.size w w' := by
  have HZ := Lib.hid (dB_size n h)
  have HW := Lib.hid (wd_3 n)
  have hsz : (dB n ++ ⟨#[46, 53]⟩ : ByteArray).size ≤ 5000000 := by simp only [ByteArray.size_append]; have := HZ.out; first | exact Nat.le_trans this (by decide) | (show _ + _ ≤ _; first | (show 1 + (dB n).size + 1 ≤ 5000000; omega) | (show (dB n).size + 2 ≤ 5000000; omega))
  have HSZ := Lib.hid hsz
  have HN5 := Lib.hid (nds_text5 _ (show (dB n ++ ⟨#[46, 53]⟩ : ByteArray).size ≤ 100000000 by omega))
  have HS5 := Lib.hid (nds_sz5 _ (show (dB n ++ ⟨#[46, 53]⟩ : ByteArray).size ≤ 100000000 by omega))
  clear hsz
  obtain ⟨n1, n2⟩ := h
  have HT0 := Lib.hid ht
  have hz := HZ.out
  clear ht
  go_enter Tryd.func6, Tryd.ntmps6
  go_wp2_with fail
  refine (decimal_any n _ (by omega)).mono ?_
  rintro e w1 ⟨rfl, hb1⟩
  rw [show strOfNums (decT n) = dB n from rfl]
  have hq0 := hz
  generalize dB n = d at *
  have HK := Lib.hid hk
  clear hk
  have HG := heap_alloc_self w1
  go_wp2_with (go_at_call 16; (with_reducible refine (round_any k 12 3 _ (by decide) (by decide) HK.out).mono ?_); rintro e w' ⟨rfl, rfl⟩)
  refine (nodes5_any _ _ HSZ.out).mono ?_
  rintro e w2 ⟨⟨v2, rfl, hv2⟩, hb2⟩
  have hB2 := below_seq (below_seq hb1 (below_al w1 _)) hb2
  go_wp2_with fail
  refine (parse_any hv2 HS5.out HN5.out).mono ?_
  rintro e w3 ⟨rfl, hb3⟩
  rw [HW.out]
  have hB3 := below_seq hB2 hb3
  have HT := Lib.hid (HT0.out.below hB3)
  go_wp2_with (go_at_call 7; (with_reducible refine (awake5_any _ HT.out).mono ?_); rintro e w9 ⟨rfl, hb9⟩)
  go_ret
  exact ⟨rfl, below_seq hB3 hb9⟩
set_option maxRecDepth 100000 in
set_option maxHeartbeats 3200000 in
theorem words_4 (w : World) (n k : Int) (ht : Tab w) (h : -2147483648 ≤ n ∧ n < 2147483648) (hk : k % 12 = 4) :
    Calls Tryd.prog 6 #[.int .i64 n, .int .i64 k] w fun e w' => e = .returned (.bool true) ∧ Below w.heap.size w w' := by
  have HZ := Lib.hid (dB_size n h)
  have HW := Lib.hid (wd_4 n)
  have hsz : (⟨#[40]⟩ ++ dB n ++ ⟨#[41]⟩ : ByteArray).size ≤ 5000000 := by simp only [ByteArray.size_append]; have := HZ.out; first | exact Nat.le_trans this (by decide) | (show _ + _ ≤ _; first | (show 1 + (dB n).size + 1 ≤ 5000000; omega) | (show (dB n).size + 2 ≤ 5000000; omega))
  have HSZ := Lib.hid hsz
  have HN5 := Lib.hid (nds_text5 _ (show (⟨#[40]⟩ ++ dB n ++ ⟨#[41]⟩ : ByteArray).size ≤ 100000000 by omega))
  have HS5 := Lib.hid (nds_sz5 _ (show (⟨#[40]⟩ ++ dB n ++ ⟨#[41]⟩ : ByteArray).size ≤ 100000000 by omega))
  clear hsz
  obtain ⟨n1, n2⟩ := h
  have HT0 := Lib.hid ht
  have hz := HZ.out
  clear ht
  go_enter Tryd.func6, Tryd.ntmps6
  go_wp2_with fail
  refine (decimal_any n _ (by omega)).mono ?_
  rintro e w1 ⟨rfl, hb1⟩
  rw [show strOfNums (decT n) = dB n from rfl]
  have hq0 := hz
  generalize dB n = d at *
  have HK := Lib.hid hk
  clear hk
  have HG := heap_alloc_self w1
  go_wp2_with (go_at_call 16; (with_reducible refine (round_any k 12 4 _ (by decide) (by decide) HK.out).mono ?_); rintro e w' ⟨rfl, rfl⟩)
  refine (nodes5_any _ _ HSZ.out).mono ?_
  rintro e w2 ⟨⟨v2, rfl, hv2⟩, hb2⟩
  have hB2 := below_seq (below_seq hb1 (below_al w1 _)) hb2
  go_wp2_with fail
  refine (parse_any hv2 HS5.out HN5.out).mono ?_
  rintro e w3 ⟨rfl, hb3⟩
  rw [HW.out]
  have hB3 := below_seq hB2 hb3
  have HT := Lib.hid (HT0.out.below hB3)
  go_wp2_with (go_at_call 7; (with_reducible refine (awake5_any _ HT.out).mono ?_); rintro e w9 ⟨rfl, hb9⟩)
  go_ret
  exact ⟨rfl, below_seq hB3 hb9⟩
set_option maxRecDepth 100000 in
set_option maxHeartbeats 3200000 in
theorem words_5 (w : World) (n k : Int) (ht : Tab w) (h : -2147483648 ≤ n ∧ n < 2147483648) (hk : k % 12 = 5) :
    Calls Tryd.prog 6 #[.int .i64 n, .int .i64 k] w fun e w' => e = .returned (.bool true) ∧ Below w.heap.size w w' := by
  have HZ := Lib.hid (dB_size n h)
  have HW := Lib.hid (wd_5)
  have hsz : (⟨#[111, 100, 100, 32, 101, 118, 101, 110]⟩ : ByteArray).size ≤ 5000000 := by decide
  have HSZ := Lib.hid hsz
  have HN5 := Lib.hid (nds_text5 _ (show (⟨#[111, 100, 100, 32, 101, 118, 101, 110]⟩ : ByteArray).size ≤ 100000000 by omega))
  have HS5 := Lib.hid (nds_sz5 _ (show (⟨#[111, 100, 100, 32, 101, 118, 101, 110]⟩ : ByteArray).size ≤ 100000000 by omega))
  clear hsz
  obtain ⟨n1, n2⟩ := h
  have HT0 := Lib.hid ht
  have hz := HZ.out
  clear ht
  go_enter Tryd.func6, Tryd.ntmps6
  go_wp2_with fail
  refine (decimal_any n _ (by omega)).mono ?_
  rintro e w1 ⟨rfl, hb1⟩
  rw [show strOfNums (decT n) = dB n from rfl]
  have hq0 := hz
  generalize dB n = d at *
  have HK := Lib.hid hk
  clear hk
  have HG := heap_alloc_self w1
  go_wp2_with (go_at_call 16; (with_reducible refine (round_any k 12 5 _ (by decide) (by decide) HK.out).mono ?_); rintro e w' ⟨rfl, rfl⟩)
  refine (nodes5_any _ _ HSZ.out).mono ?_
  rintro e w2 ⟨⟨v2, rfl, hv2⟩, hb2⟩
  have hB2 := below_seq (below_seq hb1 (below_al w1 _)) hb2
  go_wp2_with fail
  refine (parse_any hv2 HS5.out HN5.out).mono ?_
  rintro e w3 ⟨rfl, hb3⟩
  rw [HW.out]
  have hB3 := below_seq hB2 hb3
  have HT := Lib.hid (HT0.out.below hB3)
  go_wp2_with (go_at_call 7; (with_reducible refine (awake5_any _ HT.out).mono ?_); rintro e w9 ⟨rfl, hb9⟩)
  go_ret
  exact ⟨rfl, below_seq hB3 hb9⟩
set_option maxRecDepth 100000 in
set_option maxHeartbeats 3200000 in
theorem words_6 (w : World) (n k : Int) (ht : Tab w) (h : -2147483648 ≤ n ∧ n < 2147483648) (hk : k % 12 = 6) :
    Calls Tryd.prog 6 #[.int .i64 n, .int .i64 k] w fun e w' => e = .returned (.bool true) ∧ Below w.heap.size w w' := by
  have HZ := Lib.hid (dB_size n h)
  have HW := Lib.hid (wd_6)
  have hsz : (⟨#[110, 43]⟩ : ByteArray).size ≤ 5000000 := by decide
  have HSZ := Lib.hid hsz
  have HN5 := Lib.hid (nds_text5 _ (show (⟨#[110, 43]⟩ : ByteArray).size ≤ 100000000 by omega))
  have HS5 := Lib.hid (nds_sz5 _ (show (⟨#[110, 43]⟩ : ByteArray).size ≤ 100000000 by omega))
  clear hsz
  obtain ⟨n1, n2⟩ := h
  have HT0 := Lib.hid ht
  have hz := HZ.out
  clear ht
  go_enter Tryd.func6, Tryd.ntmps6
  go_wp2_with fail
  refine (decimal_any n _ (by omega)).mono ?_
  rintro e w1 ⟨rfl, hb1⟩
  rw [show strOfNums (decT n) = dB n from rfl]
  have hq0 := hz
  generalize dB n = d at *
  have HK := Lib.hid hk
  clear hk
  have HG := heap_alloc_self w1
  go_wp2_with (go_at_call 16; (with_reducible refine (round_any k 12 6 _ (by decide) (by decide) HK.out).mono ?_); rintro e w' ⟨rfl, rfl⟩)
  refine (nodes5_any _ _ HSZ.out).mono ?_
  rintro e w2 ⟨⟨v2, rfl, hv2⟩, hb2⟩
  have hB2 := below_seq (below_seq hb1 (below_al w1 _)) hb2
  go_wp2_with fail
  refine (parse_any hv2 HS5.out HN5.out).mono ?_
  rintro e w3 ⟨rfl, hb3⟩
  rw [HW.out]
  have hB3 := below_seq hB2 hb3
  have HT := Lib.hid (HT0.out.below hB3)
  go_wp2_with (go_at_call 7; (with_reducible refine (awake5_any _ HT.out).mono ?_); rintro e w9 ⟨rfl, hb9⟩)
  go_ret
  exact ⟨rfl, below_seq hB3 hb9⟩
set_option maxRecDepth 100000 in
set_option maxHeartbeats 3200000 in
theorem words_7 (w : World) (n k : Int) (ht : Tab w) (h : -2147483648 ≤ n ∧ n < 2147483648) (hk : k % 12 = 7) :
    Calls Tryd.prog 6 #[.int .i64 n, .int .i64 k] w fun e w' => e = .returned (.bool true) ∧ Below w.heap.size w w' := by
  have HZ := Lib.hid (dB_size n h)
  have HW := Lib.hid (wd_7)
  have hsz : (⟨#[43, 32, 110]⟩ : ByteArray).size ≤ 5000000 := by decide
  have HSZ := Lib.hid hsz
  have HN5 := Lib.hid (nds_text5 _ (show (⟨#[43, 32, 110]⟩ : ByteArray).size ≤ 100000000 by omega))
  have HS5 := Lib.hid (nds_sz5 _ (show (⟨#[43, 32, 110]⟩ : ByteArray).size ≤ 100000000 by omega))
  clear hsz
  obtain ⟨n1, n2⟩ := h
  have HT0 := Lib.hid ht
  have hz := HZ.out
  clear ht
  go_enter Tryd.func6, Tryd.ntmps6
  go_wp2_with fail
  refine (decimal_any n _ (by omega)).mono ?_
  rintro e w1 ⟨rfl, hb1⟩
  rw [show strOfNums (decT n) = dB n from rfl]
  have hq0 := hz
  generalize dB n = d at *
  have HK := Lib.hid hk
  clear hk
  have HG := heap_alloc_self w1
  go_wp2_with (go_at_call 16; (with_reducible refine (round_any k 12 7 _ (by decide) (by decide) HK.out).mono ?_); rintro e w' ⟨rfl, rfl⟩)
  refine (nodes5_any _ _ HSZ.out).mono ?_
  rintro e w2 ⟨⟨v2, rfl, hv2⟩, hb2⟩
  have hB2 := below_seq (below_seq hb1 (below_al w1 _)) hb2
  go_wp2_with fail
  refine (parse_any hv2 HS5.out HN5.out).mono ?_
  rintro e w3 ⟨rfl, hb3⟩
  rw [HW.out]
  have hB3 := below_seq hB2 hb3
  have HT := Lib.hid (HT0.out.below hB3)
  go_wp2_with (go_at_call 7; (with_reducible refine (awake5_any _ HT.out).mono ?_); rintro e w9 ⟨rfl, hb9⟩)
  go_ret
  exact ⟨rfl, below_seq hB3 hb9⟩
set_option maxRecDepth 100000 in
set_option maxHeartbeats 3200000 in
theorem words_8 (w : World) (n k : Int) (ht : Tab w) (h : -2147483648 ≤ n ∧ n < 2147483648) (hk : k % 12 = 8) :
    Calls Tryd.prog 6 #[.int .i64 n, .int .i64 k] w fun e w' => e = .returned (.bool true) ∧ Below w.heap.size w w' := by
  have HZ := Lib.hid (dB_size n h)
  have HW := Lib.hid (wd_8)
  have hsz : (⟨#[50, 32, 110]⟩ : ByteArray).size ≤ 5000000 := by decide
  have HSZ := Lib.hid hsz
  have HN5 := Lib.hid (nds_text5 _ (show (⟨#[50, 32, 110]⟩ : ByteArray).size ≤ 100000000 by omega))
  have HS5 := Lib.hid (nds_sz5 _ (show (⟨#[50, 32, 110]⟩ : ByteArray).size ≤ 100000000 by omega))
  clear hsz
  obtain ⟨n1, n2⟩ := h
  have HT0 := Lib.hid ht
  have hz := HZ.out
  clear ht
  go_enter Tryd.func6, Tryd.ntmps6
  go_wp2_with fail
  refine (decimal_any n _ (by omega)).mono ?_
  rintro e w1 ⟨rfl, hb1⟩
  rw [show strOfNums (decT n) = dB n from rfl]
  have hq0 := hz
  generalize dB n = d at *
  have HK := Lib.hid hk
  clear hk
  have HG := heap_alloc_self w1
  go_wp2_with (go_at_call 16; (with_reducible refine (round_any k 12 8 _ (by decide) (by decide) HK.out).mono ?_); rintro e w' ⟨rfl, rfl⟩)
  refine (nodes5_any _ _ HSZ.out).mono ?_
  rintro e w2 ⟨⟨v2, rfl, hv2⟩, hb2⟩
  have hB2 := below_seq (below_seq hb1 (below_al w1 _)) hb2
  go_wp2_with fail
  refine (parse_any hv2 HS5.out HN5.out).mono ?_
  rintro e w3 ⟨rfl, hb3⟩
  rw [HW.out]
  have hB3 := below_seq hB2 hb3
  have HT := Lib.hid (HT0.out.below hB3)
  go_wp2_with (go_at_call 7; (with_reducible refine (awake5_any _ HT.out).mono ?_); rintro e w9 ⟨rfl, hb9⟩)
  go_ret
  exact ⟨rfl, below_seq hB3 hb9⟩
set_option maxRecDepth 100000 in
set_option maxHeartbeats 3200000 in
theorem words_9 (w : World) (n k : Int) (ht : Tab w) (h : -2147483648 ≤ n ∧ n < 2147483648) (hk : k % 12 = 9) :
    Calls Tryd.prog 6 #[.int .i64 n, .int .i64 k] w fun e w' => e = .returned (.bool true) ∧ Below w.heap.size w w' := by
  have HZ := Lib.hid (dB_size n h)
  have HW := Lib.hid (wd_9)
  have hsz : (⟨#[110, 45, 110]⟩ : ByteArray).size ≤ 5000000 := by decide
  have HSZ := Lib.hid hsz
  have HN5 := Lib.hid (nds_text5 _ (show (⟨#[110, 45, 110]⟩ : ByteArray).size ≤ 100000000 by omega))
  have HS5 := Lib.hid (nds_sz5 _ (show (⟨#[110, 45, 110]⟩ : ByteArray).size ≤ 100000000 by omega))
  clear hsz
  obtain ⟨n1, n2⟩ := h
  have HT0 := Lib.hid ht
  have hz := HZ.out
  clear ht
  go_enter Tryd.func6, Tryd.ntmps6
  go_wp2_with fail
  refine (decimal_any n _ (by omega)).mono ?_
  rintro e w1 ⟨rfl, hb1⟩
  rw [show strOfNums (decT n) = dB n from rfl]
  have hq0 := hz
  generalize dB n = d at *
  have HK := Lib.hid hk
  clear hk
  have HG := heap_alloc_self w1
  go_wp2_with (go_at_call 16; (with_reducible refine (round_any k 12 9 _ (by decide) (by decide) HK.out).mono ?_); rintro e w' ⟨rfl, rfl⟩)
  refine (nodes5_any _ _ HSZ.out).mono ?_
  rintro e w2 ⟨⟨v2, rfl, hv2⟩, hb2⟩
  have hB2 := below_seq (below_seq hb1 (below_al w1 _)) hb2
  go_wp2_with fail
  refine (parse_any hv2 HS5.out HN5.out).mono ?_
  rintro e w3 ⟨rfl, hb3⟩
  rw [HW.out]
  have hB3 := below_seq hB2 hb3
  have HT := Lib.hid (HT0.out.below hB3)
  go_wp2_with (go_at_call 7; (with_reducible refine (awake5_any _ HT.out).mono ?_); rintro e w9 ⟨rfl, hb9⟩)
  go_ret
  exact ⟨rfl, below_seq hB3 hb9⟩
set_option maxRecDepth 100000 in
set_option maxHeartbeats 3200000 in
theorem words_10 (w : World) (n k : Int) (ht : Tab w) (h : -2147483648 ≤ n ∧ n < 2147483648) (hk : k % 12 = 10) :
    Calls Tryd.prog 6 #[.int .i64 n, .int .i64 k] w fun e w' => e = .returned (.bool true) ∧ Below w.heap.size w w' := by
  have HZ := Lib.hid (dB_size n h)
  have HW := Lib.hid (wd_10 n)
  have hsz : (⟨#[43]⟩ ++ dB n ++ ⟨#[120]⟩ : ByteArray).size ≤ 5000000 := by simp only [ByteArray.size_append]; have := HZ.out; first | exact Nat.le_trans this (by decide) | (show _ + _ ≤ _; first | (show 1 + (dB n).size + 1 ≤ 5000000; omega) | (show (dB n).size + 2 ≤ 5000000; omega))
  have HSZ := Lib.hid hsz
  have HN5 := Lib.hid (nds_text5 _ (show (⟨#[43]⟩ ++ dB n ++ ⟨#[120]⟩ : ByteArray).size ≤ 100000000 by omega))
  have HS5 := Lib.hid (nds_sz5 _ (show (⟨#[43]⟩ ++ dB n ++ ⟨#[120]⟩ : ByteArray).size ≤ 100000000 by omega))
  clear hsz
  obtain ⟨n1, n2⟩ := h
  have HT0 := Lib.hid ht
  have hz := HZ.out
  clear ht
  go_enter Tryd.func6, Tryd.ntmps6
  go_wp2_with fail
  refine (decimal_any n _ (by omega)).mono ?_
  rintro e w1 ⟨rfl, hb1⟩
  rw [show strOfNums (decT n) = dB n from rfl]
  have hq0 := hz
  generalize dB n = d at *
  have HK := Lib.hid hk
  clear hk
  have HG := heap_alloc_self w1
  go_wp2_with (go_at_call 16; (with_reducible refine (round_any k 12 10 _ (by decide) (by decide) HK.out).mono ?_); rintro e w' ⟨rfl, rfl⟩)
  refine (nodes5_any _ _ HSZ.out).mono ?_
  rintro e w2 ⟨⟨v2, rfl, hv2⟩, hb2⟩
  have hB2 := below_seq (below_seq hb1 (below_al w1 _)) hb2
  go_wp2_with fail
  refine (parse_any hv2 HS5.out HN5.out).mono ?_
  rintro e w3 ⟨rfl, hb3⟩
  rw [HW.out]
  have hB3 := below_seq hB2 hb3
  have HT := Lib.hid (HT0.out.below hB3)
  go_wp2_with (go_at_call 7; (with_reducible refine (awake5_any _ HT.out).mono ?_); rintro e w9 ⟨rfl, hb9⟩)
  go_ret
  exact ⟨rfl, below_seq hB3 hb9⟩
set_option maxRecDepth 100000 in
set_option maxHeartbeats 3200000 in
theorem words_11 (w : World) (n k : Int) (ht : Tab w) (h : -2147483648 ≤ n ∧ n < 2147483648) (hk : k % 12 = 11) :
    Calls Tryd.prog 6 #[.int .i64 n, .int .i64 k] w fun e w' => e = .returned (.bool true) ∧ Below w.heap.size w w' := by
  have HZ := Lib.hid (dB_size n h)
  have HW := Lib.hid (wd_11)
  have hsz : (⟨#[]⟩ : ByteArray).size ≤ 5000000 := by decide
  have HSZ := Lib.hid hsz
  have HN5 := Lib.hid (nds_text5 _ (show (⟨#[]⟩ : ByteArray).size ≤ 100000000 by omega))
  have HS5 := Lib.hid (nds_sz5 _ (show (⟨#[]⟩ : ByteArray).size ≤ 100000000 by omega))
  clear hsz
  obtain ⟨n1, n2⟩ := h
  have HT0 := Lib.hid ht
  have hz := HZ.out
  clear ht
  go_enter Tryd.func6, Tryd.ntmps6
  go_wp2_with fail
  refine (decimal_any n _ (by omega)).mono ?_
  rintro e w1 ⟨rfl, hb1⟩
  rw [show strOfNums (decT n) = dB n from rfl]
  have hq0 := hz
  generalize dB n = d at *
  have HK := Lib.hid hk
  clear hk
  have HG := heap_alloc_self w1
  go_wp2_with (go_at_call 16; (with_reducible refine (round_any k 12 11 _ (by decide) (by decide) HK.out).mono ?_); rintro e w' ⟨rfl, rfl⟩)
  refine (nodes5_any _ _ HSZ.out).mono ?_
  rintro e w2 ⟨⟨v2, rfl, hv2⟩, hb2⟩
  have hB2 := below_seq (below_seq hb1 (below_al w1 _)) hb2
  go_wp2_with fail
  refine (parse_any hv2 HS5.out HN5.out).mono ?_
  rintro e w3 ⟨rfl, hb3⟩
  rw [HW.out]
  have hB3 := below_seq hB2 hb3
  have HT := Lib.hid (HT0.out.below hB3)
  go_wp2_with (go_at_call 7; (with_reducible refine (awake5_any _ HT.out).mono ?_); rintro e w9 ⟨rfl, hb9⟩)
  go_ret
  exact ⟨rfl, below_seq hB3 hb9⟩
theorem AnbWords_any (w : World) (ht : Tab w) (n : Int) (_wn : (Lit.int .i64 n).wf = true) (k : Int) (_wk : (Lit.int .i64 k).wf = true) :
    Calls Tryd.prog 6 #[.int .i64 n, .int .i64 k] w fun e w' => e = .returned (.bool true) ∧ Below w.heap.size w w' := by
  by_cases h : -2147483648 ≤ n ∧ n < 2147483648
  · have h0 := Int.emod_nonneg k (show (12 : Int) ≠ 0 by decide)
    have h1 := Int.emod_lt_of_pos k (show (0 : Int) < 12 by decide)
    have hk : k % 12 = 0 ∨ k % 12 = 1 ∨ k % 12 = 2 ∨ k % 12 = 3 ∨ k % 12 = 4 ∨ k % 12 = 5 ∨ k % 12 = 6 ∨ k % 12 = 7 ∨ k % 12 = 8 ∨ k % 12 = 9 ∨ k % 12 = 10 ∨ k % 12 = 11 := by omega
    rcases hk with hk | hk | hk | hk | hk | hk | hk | hk | hk | hk | hk | hk
    · exact words_0 w n k ht h hk
    · exact words_1 w n k ht h hk
    · exact words_2 w n k ht h hk
    · exact words_3 w n k ht h hk
    · exact words_4 w n k ht h hk
    · exact words_5 w n k ht h hk
    · exact words_6 w n k ht h hk
    · exact words_7 w n k ht h hk
    · exact words_8 w n k ht h hk
    · exact words_9 w n k ht h hk
    · exact words_10 w n k ht h hk
    · exact words_11 w n k ht h hk
  · exact words_out w n k ht (by omega)
end Go.Proofs.YtlajkfnlkkgneaaDoor
