
import Derived.Test.YtdfbkpmmmldoiaaTkStq
namespace Go.Proofs.Ytdfbkpmmmldoiaa
open Go.RowKit
theorem round_any (k n m : Int) (w : World) (hn : 0 < n) (hn2 : n ≤ 1000) (hm : k % n = m) :
    Calls Try.prog 21 #[.int .i64 k, .int .i64 n] w fun e w' => e = .returned (.int .i64 m) ∧ w = w' := by
  have hne : ¬ n = 0 := by omega
  have hne2 : (n == 0) = false := by simp [hne]
  have ht : -1000 < k.tmod n ∧ k.tmod n < 1000 := by
    have h1 := Int.tmod_lt_of_pos k hn
    have h2 := Int.tmod_lt_of_pos (-k) hn
    rw [Int.neg_tmod] at h2
    omega
  have hr : (k.tmod n + n).tmod n = m := by
    have h1 := Int.tmod_lt_of_pos k hn
    have h2 := Int.tmod_lt_of_pos (-k) hn
    rw [Int.neg_tmod] at h2
    rw [Int.tmod_eq_emod_of_nonneg (by omega), ← hm, Int.add_emod_right]
    rcases Int.le_total 0 k with h | h
    · rw [Int.tmod_eq_emod_of_nonneg h, Int.emod_emod_of_dvd k (Int.dvd_refl n)]
    · have h3 := Int.tmod_add_mul_tdiv k n
      conv => rhs; rw [← h3]
      rw [Int.add_mul_emod_self_left]
  obtain ⟨ht1, ht2⟩ := ht
  have HR := Lib.hid hr
  have HM := Lib.hid hm
  clear hr hm
  go_enter Try.func21, Try.ntmps21
  go_wp2
  go_ret
  exact ⟨ret_int HR.out, rfl⟩

set_option maxRecDepth 100000 in
set_option maxHeartbeats 3200000 in
theorem str_many34 (w : World) (s : ByteArray) (k : Int) (h3 : (200 : Int) < (s.size : Int)) :
    Calls Try.prog 7 #[.string s, .bool true, .int .i64 k] w fun e w' => e = .returned (.bool true) ∧ Below w.heap.size w w' := by
  go_enter Try.func7, Try.ntmps7
  go_wp2_with (go_at_call 12; (with_reducible refine (awake_any _).mono ?_); rintro e w1 ⟨rfl, hb1⟩)
  go_ret
  exact ⟨rfl, hb1⟩
set_option maxRecDepth 100000 in
set_option maxHeartbeats 6400000 in
theorem str_main34 (w : World) (s : ByteArray) (k : Int) (h5 : s.size ≤ 200) :
    Calls Try.prog 7 #[.string s, .bool true, .int .i64 k] w fun e w' => e = .returned (.bool true) ∧ Below w.heap.size w w' := by
  have h3 : ¬ (200 : Int) < (s.size : Int) := by omega
  go_enter Try.func7, Try.ntmps7
  go_wp2
  go_loopw [8, 9, 10] (fun tv iv _ wr => ∃ (t : ByteArray) (i : Nat), i ≤ s.size ∧ iv = .int .i64 i ∧ tv = .string t ∧ Escd 34 s t i ∧ t.size ≤ 2 * i ∧ Below w.heap.size w wr) (fun _ iv _ _ => s.size - (intOf iv).toNat)
  case atStart => exact ⟨⟨#[]⟩, 0, Nat.zero_le _, rfl, rfl, Escd.zero _ _, Nat.le_refl _, Below.refl _ _⟩
  case round =>
    obtain ⟨t, i, hi, rfl, rfl, hE, htz, hbw⟩ := hrel
    have HE := Lib.hid hE
    clear hE
    by_cases hlt : i < s.size
    · have HNTH := Lib.hid (show nth (nums s) i = (s[i].toNat : Int) from nums_at s i hlt)
      by_cases c1 : (s[i].toNat : Int) < 32
      · go_wp2_with (go_at_call 12; (with_reducible refine (awake_any _).mono ?_); rintro e w1 ⟨rfl, hb1⟩)
        go_ret
        exact ⟨rfl, below_seq hbw hb1⟩
      by_cases c2 : (126 : Int) < (s[i].toNat : Int)
      · go_wp2_with (go_at_call 12; (with_reducible refine (awake_any _).mono ?_); rintro e w1 ⟨rfl, hb1⟩)
        go_ret
        exact ⟨rfl, below_seq hbw hb1⟩
      by_cases c3 : (s[i].toNat : Int) = 92
      · have b3 : ((s[i].toNat : Int) == 92) = true := by simp [c3]
        go_wp2_with (go_at_call 12; (with_reducible refine (awake_any _).mono ?_); rintro e w1 ⟨rfl, hb1⟩)
        go_ret
        exact ⟨rfl, below_seq hbw hb1⟩
      · have b3 : ((s[i].toNat : Int) == 92) = false := by simp [c3]
        have hst := HE.out.step hlt HNTH.out (by omega) (by omega) c3
        have v1 := (Rd.lit wr .u8 [(s[i].toNat : Int)] #[.int .u8 (s[i].toNat : Int)] 5 (0, 0) 1 rfl rfl).conv
        have v2 := (Rd.lit (wr.alloc (.cells #[.int .u8 (s[i].toNat : Int)] 5 (0, 0))) .u8 [(s[i].toNat : Int)] #[.int .u8 (s[i].toNat : Int)] 5 (0, 0) 1 rfl rfl).conv
        rw [show (wr.alloc (.cells #[.int .u8 (s[i].toNat : Int)] 5 (0, 0))).heap.size = wr.heap.size + 1 by simp] at v2
        have hB : Below w.heap.size w ((wr.alloc (.cells #[.int .u8 (s[i].toNat : Int)] 5 (0, 0))).alloc (.cells #[.int .u8 (s[i].toNat : Int)] 5 (0, 0))) := below_seq (below_seq hbw ((Below.refl _ _).alloc (Nat.le_refl _) _)) ((Below.refl _ _).alloc (Nat.le_refl _) _)
        have z1 : (strOfNums [(s[i].toNat : Int)]).size ≤ 1 := by rw [strOfNums_size]; exact Nat.le_refl _
        have z2 : ¬ 9223372036854775807 < t.size + 1 + (strOfNums [(s[i].toNat : Int)]).size := by omega
        have z3 : ¬ 9223372036854775807 < t.size + (strOfNums [(s[i].toNat : Int)]).size := by omega
        have z4 : ¬ 9223372036854775807 < t.size + 1 := by omega
        by_cases c4 : (s[i].toNat : Int) = 34
        · have hst1 := Lib.hid (hst.1 c4)
          have b4 : ((strOfNums [(s[i].toNat : Int)]).toList == [34]) = true := by rw [c4]; decide +kernel
          clear hst c3 c4
          go_wp2
          go_roundw
          case rel => exact ⟨_, i + 1, by omega, by go_num, rfl, hst1.out, by simp only [ByteArray.size_append, strOfNums_size]; show _ + 1 + 1 ≤ _; omega, hB⟩
          case measure => simp [intOf]; omega
        · have hst1 := Lib.hid (hst.2 c4)
          have b4 : ((strOfNums [(s[i].toNat : Int)]).toList == [34]) = false := by
            rw [ByteArray.toList_eq, strOfNums_data]
            simp
            intro e
            have h := congrArg UInt8.toNat e
            simp at h
            omega
          clear hst c3 c4
          go_wp2
          go_roundw
          case rel => exact ⟨_, i + 1, by omega, by go_num, rfl, hst1.out, by simp only [ByteArray.size_append, strOfNums_size]; show _ + 1 ≤ _; omega, hB⟩
          case measure => simp [intOf]; omega
    · have hT := HE.out.last hlt
      by_cases hj : k % 4 = 0
      · have hj := hj
        have HT := Lib.hid (str_0 (q := 34) (by decide) (Q := ⟨#[34]⟩) rfl hT.1 hT.2)
        go_wp2_with (go_at_call 21; (with_reducible refine (round_any _ 4 0 _ (by decide) (by decide) hj).mono ?_); rintro e w1 ⟨rfl, rfl⟩)
        refine (allT_any _ _ (by simp only [ByteArray.size_append, show (⟨#[34]⟩ : ByteArray).size = 1 from rfl, show (⟨#[97]⟩ : ByteArray).size = 1 from rfl]; omega)).mono ?_
        rintro e w1 ⟨v1, rfl, hr1, hb1⟩
        rw [HT.out] at hr1
        obtain ⟨a, c, rfl, hle, hcell⟩ := hr1
        obtain ⟨b, rfl, hlt2, hc⟩ := hcell (by simp)
        rw [show ([{ kind := 5, text := s }, { kind := 1, text := ⟨#[97]⟩ }] : List Tok).length = 2 from rfl] at hle ⊢
        have f0 := hc 0 _ rfl
        have f1 := hc 1 _ rfl
        have f2 := hc 2 _ rfl
        have f3 := hc 3 _ rfl
        have f4 := hc 4 _ rfl
        have f5 := hc 5 _ rfl
        have f7 := hc 7 _ rfl
        have q0 : ∀ w : World, (binOp .eql 33 (.agg #[.int .i64 5, .string s, .int .i64 0, .bool false, .bool false, .bool false]) (.agg #[.int .i64 5, .string s, .int .i64 0, .bool false, .bool false, .bool false])).run Try.prog w = .ok (.bool true) w := fun w => tokRefl_run { kind := 5, text := s } w
        clear hc hcell HT
        go_wp2_with (go_at_call 12; (with_reducible refine (awake_any _).mono ?_); rintro e w2 ⟨rfl, hb2⟩)
        go_ret
        exact ⟨rfl, below_seq hbw (below_seq hb1 hb2)⟩
      by_cases hj1 : k % 4 = 1
      · have hj := hj1
        have HT := Lib.hid (str_1 (q := 34) (by decide) (Q := ⟨#[34]⟩) rfl hT.1 hT.2)
        go_wp2_with (go_at_call 21; (with_reducible refine (round_any _ 4 1 _ (by decide) (by decide) hj).mono ?_); rintro e w1 ⟨rfl, rfl⟩)
        refine (allT_any _ _ (by simp only [ByteArray.size_append, show (⟨#[34]⟩ : ByteArray).size = 1 from rfl]; omega)).mono ?_
        rintro e w1 ⟨v1, rfl, hr1, hb1⟩
        rw [HT.out] at hr1
        obtain ⟨a, c, rfl, hle, hcell⟩ := hr1
        obtain ⟨b, rfl, hlt2, hc⟩ := hcell (by simp)
        rw [show ([{ kind := 5, text := s }] : List Tok).length = 1 from rfl] at hle ⊢
        have f0 := hc 0 _ rfl
        have f1 := hc 1 _ rfl
        have f2 := hc 2 _ rfl
        have f3 := hc 3 _ rfl
        have f4 := hc 4 _ rfl
        have f5 := hc 5 _ rfl
        have q0 : ∀ w : World, (binOp .eql 33 (.agg #[.int .i64 5, .string s, .int .i64 0, .bool false, .bool false, .bool false]) (.agg #[.int .i64 5, .string s, .int .i64 0, .bool false, .bool false, .bool false])).run Try.prog w = .ok (.bool true) w := fun w => tokRefl_run { kind := 5, text := s } w
        clear hc hcell HT
        go_wp2_with (go_at_call 12; (with_reducible refine (awake_any _).mono ?_); rintro e w2 ⟨rfl, hb2⟩)
        go_ret
        exact ⟨rfl, below_seq hbw (below_seq hb1 hb2)⟩
      by_cases hj2 : k % 4 = 2
      · have hj := hj2
        have HT := Lib.hid (str_2 (q := 34) (by decide) (Q := ⟨#[34]⟩) rfl hT.1 hT.2)
        go_wp2_with (go_at_call 21; (with_reducible refine (round_any _ 4 2 _ (by decide) (by decide) hj).mono ?_); rintro e w1 ⟨rfl, rfl⟩)
        refine (allT_any _ _ (by simp only [ByteArray.size_append, show (⟨#[34]⟩ : ByteArray).size = 1 from rfl, show (⟨#[10, 98]⟩ : ByteArray).size = 2 from rfl]; omega)).mono ?_
        rintro e w1 ⟨v1, rfl, hr1, hb1⟩
        rw [HT.out] at hr1
        obtain ⟨a, c, rfl, hle, hcell⟩ := hr1
        obtain ⟨b, rfl, hlt2, hc⟩ := hcell (by simp)
        rw [show ([{ kind := 6 }, { kind := 13 }, { kind := 1, text := ⟨#[98]⟩ }] : List Tok).length = 3 from rfl] at hle ⊢
        have f0 := hc 0 _ rfl
        have f1 := hc 1 _ rfl
        have f2 := hc 2 _ rfl
        have f3 := hc 3 _ rfl
        have f4 := hc 4 _ rfl
        have f5 := hc 5 _ rfl
        have f6 := hc 6 _ rfl
        have f13 := hc 13 _ rfl
        have q0 : ∀ w : World, (binOp .eql 33 (.agg #[.int .i64 6, .string ⟨#[]⟩, .int .i64 0, .bool false, .bool false, .bool false]) (.agg #[.int .i64 6, .string ⟨#[]⟩, .int .i64 0, .bool false, .bool false, .bool false])).run Try.prog w = .ok (.bool true) w := fun w => tokRefl_run { kind := 6 } w
        clear hc hcell HT
        go_wp2_with (go_at_call 12; (with_reducible refine (awake_any _).mono ?_); rintro e w2 ⟨rfl, hb2⟩)
        go_ret
        exact ⟨rfl, below_seq hbw (below_seq hb1 hb2)⟩
      · have hj : k % 4 = 3 := by omega
        have HT := Lib.hid (str_3 (q := 34) (by decide) (Q := ⟨#[34]⟩) rfl hT.1 hT.2)
        go_wp2_with (go_at_call 21; (with_reducible refine (round_any _ 4 3 _ (by decide) (by decide) hj).mono ?_); rintro e w1 ⟨rfl, rfl⟩)
        refine (allT_any _ _ (by simp only [ByteArray.size_append, show (⟨#[34]⟩ : ByteArray).size = 1 from rfl, show (⟨#[92, 10]⟩ : ByteArray).size = 2 from rfl]; omega)).mono ?_
        rintro e w1 ⟨v1, rfl, hr1, hb1⟩
        rw [HT.out] at hr1
        obtain ⟨a, c, rfl, hle, hcell⟩ := hr1
        obtain ⟨b, rfl, hlt2, hc⟩ := hcell (by simp)
        rw [show ([{ kind := 5, text := s ++ s }] : List Tok).length = 1 from rfl] at hle ⊢
        have f0 := hc 0 _ rfl
        have f1 := hc 1 _ rfl
        have f2 := hc 2 _ rfl
        have f3 := hc 3 _ rfl
        have f4 := hc 4 _ rfl
        have f5 := hc 5 _ rfl
        have q0 : ∀ w : World, (binOp .eql 33 (.agg #[.int .i64 5, .string (s ++ s), .int .i64 0, .bool false, .bool false, .bool false]) (.agg #[.int .i64 5, .string (s ++ s), .int .i64 0, .bool false, .bool false, .bool false])).run Try.prog w = .ok (.bool true) w := fun w => tokRefl_run { kind := 5, text := s ++ s } w
        clear hc hcell HT
        go_wp2_with (go_at_call 12; (with_reducible refine (awake_any _).mono ?_); rintro e w2 ⟨rfl, hb2⟩)
        go_ret
        exact ⟨rfl, below_seq hbw (below_seq hb1 hb2)⟩

set_option maxRecDepth 100000 in
set_option maxHeartbeats 3200000 in
theorem str_many39 (w : World) (s : ByteArray) (k : Int) (h3 : (200 : Int) < (s.size : Int)) :
    Calls Try.prog 7 #[.string s, .bool false, .int .i64 k] w fun e w' => e = .returned (.bool true) ∧ Below w.heap.size w w' := by
  go_enter Try.func7, Try.ntmps7
  go_wp2_with (go_at_call 12; (with_reducible refine (awake_any _).mono ?_); rintro e w1 ⟨rfl, hb1⟩)
  go_ret
  exact ⟨rfl, hb1⟩
set_option maxRecDepth 100000 in
set_option maxHeartbeats 6400000 in
theorem str_main39 (w : World) (s : ByteArray) (k : Int) (h5 : s.size ≤ 200) :
    Calls Try.prog 7 #[.string s, .bool false, .int .i64 k] w fun e w' => e = .returned (.bool true) ∧ Below w.heap.size w w' := by
  have h3 : ¬ (200 : Int) < (s.size : Int) := by omega
  go_enter Try.func7, Try.ntmps7
  go_wp2
  go_loopw [8, 9, 10] (fun tv iv _ wr => ∃ (t : ByteArray) (i : Nat), i ≤ s.size ∧ iv = .int .i64 i ∧ tv = .string t ∧ Escd 39 s t i ∧ t.size ≤ 2 * i ∧ Below w.heap.size w wr) (fun _ iv _ _ => s.size - (intOf iv).toNat)
  case atStart => exact ⟨⟨#[]⟩, 0, Nat.zero_le _, rfl, rfl, Escd.zero _ _, Nat.le_refl _, Below.refl _ _⟩
  case round =>
    obtain ⟨t, i, hi, rfl, rfl, hE, htz, hbw⟩ := hrel
    have HE := Lib.hid hE
    clear hE
    by_cases hlt : i < s.size
    · have HNTH := Lib.hid (show nth (nums s) i = (s[i].toNat : Int) from nums_at s i hlt)
      by_cases c1 : (s[i].toNat : Int) < 32
      · go_wp2_with (go_at_call 12; (with_reducible refine (awake_any _).mono ?_); rintro e w1 ⟨rfl, hb1⟩)
        go_ret
        exact ⟨rfl, below_seq hbw hb1⟩
      by_cases c2 : (126 : Int) < (s[i].toNat : Int)
      · go_wp2_with (go_at_call 12; (with_reducible refine (awake_any _).mono ?_); rintro e w1 ⟨rfl, hb1⟩)
        go_ret
        exact ⟨rfl, below_seq hbw hb1⟩
      by_cases c3 : (s[i].toNat : Int) = 92
      · have b3 : ((s[i].toNat : Int) == 92) = true := by simp [c3]
        go_wp2_with (go_at_call 12; (with_reducible refine (awake_any _).mono ?_); rintro e w1 ⟨rfl, hb1⟩)
        go_ret
        exact ⟨rfl, below_seq hbw hb1⟩
      · have b3 : ((s[i].toNat : Int) == 92) = false := by simp [c3]
        have hst := HE.out.step hlt HNTH.out (by omega) (by omega) c3
        have v1 := (Rd.lit wr .u8 [(s[i].toNat : Int)] #[.int .u8 (s[i].toNat : Int)] 5 (0, 0) 1 rfl rfl).conv
        have v2 := (Rd.lit (wr.alloc (.cells #[.int .u8 (s[i].toNat : Int)] 5 (0, 0))) .u8 [(s[i].toNat : Int)] #[.int .u8 (s[i].toNat : Int)] 5 (0, 0) 1 rfl rfl).conv
        rw [show (wr.alloc (.cells #[.int .u8 (s[i].toNat : Int)] 5 (0, 0))).heap.size = wr.heap.size + 1 by simp] at v2
        have hB : Below w.heap.size w ((wr.alloc (.cells #[.int .u8 (s[i].toNat : Int)] 5 (0, 0))).alloc (.cells #[.int .u8 (s[i].toNat : Int)] 5 (0, 0))) := below_seq (below_seq hbw ((Below.refl _ _).alloc (Nat.le_refl _) _)) ((Below.refl _ _).alloc (Nat.le_refl _) _)
        have z1 : (strOfNums [(s[i].toNat : Int)]).size ≤ 1 := by rw [strOfNums_size]; exact Nat.le_refl _
        have z2 : ¬ 9223372036854775807 < t.size + 1 + (strOfNums [(s[i].toNat : Int)]).size := by omega
        have z3 : ¬ 9223372036854775807 < t.size + (strOfNums [(s[i].toNat : Int)]).size := by omega
        have z4 : ¬ 9223372036854775807 < t.size + 1 := by omega
        by_cases c4 : (s[i].toNat : Int) = 39
        · have hst1 := Lib.hid (hst.1 c4)
          have b4 : ((strOfNums [(s[i].toNat : Int)]).toList == [39]) = true := by rw [c4]; decide +kernel
          clear hst c3 c4
          go_wp2
          go_roundw
          case rel => exact ⟨_, i + 1, by omega, by go_num, rfl, hst1.out, by simp only [ByteArray.size_append, strOfNums_size]; show _ + 1 + 1 ≤ _; omega, hB⟩
          case measure => simp [intOf]; omega
        · have hst1 := Lib.hid (hst.2 c4)
          have b4 : ((strOfNums [(s[i].toNat : Int)]).toList == [39]) = false := by
            rw [ByteArray.toList_eq, strOfNums_data]
            simp
            intro e
            have h := congrArg UInt8.toNat e
            simp at h
            omega
          clear hst c3 c4
          go_wp2
          go_roundw
          case rel => exact ⟨_, i + 1, by omega, by go_num, rfl, hst1.out, by simp only [ByteArray.size_append, strOfNums_size]; show _ + 1 ≤ _; omega, hB⟩
          case measure => simp [intOf]; omega
    · have hT := HE.out.last hlt
      by_cases hj : k % 4 = 0
      · have hj := hj
        have HT := Lib.hid (str_0 (q := 39) (by decide) (Q := ⟨#[39]⟩) rfl hT.1 hT.2)
        go_wp2_with (go_at_call 21; (with_reducible refine (round_any _ 4 0 _ (by decide) (by decide) hj).mono ?_); rintro e w1 ⟨rfl, rfl⟩)
        refine (allT_any _ _ (by simp only [ByteArray.size_append, show (⟨#[39]⟩ : ByteArray).size = 1 from rfl, show (⟨#[97]⟩ : ByteArray).size = 1 from rfl]; omega)).mono ?_
        rintro e w1 ⟨v1, rfl, hr1, hb1⟩
        rw [HT.out] at hr1
        obtain ⟨a, c, rfl, hle, hcell⟩ := hr1
        obtain ⟨b, rfl, hlt2, hc⟩ := hcell (by simp)
        rw [show ([{ kind := 5, text := s }, { kind := 1, text := ⟨#[97]⟩ }] : List Tok).length = 2 from rfl] at hle ⊢
        have f0 := hc 0 _ rfl
        have f1 := hc 1 _ rfl
        have f2 := hc 2 _ rfl
        have f3 := hc 3 _ rfl
        have f4 := hc 4 _ rfl
        have f5 := hc 5 _ rfl
        have f7 := hc 7 _ rfl
        have q0 : ∀ w : World, (binOp .eql 33 (.agg #[.int .i64 5, .string s, .int .i64 0, .bool false, .bool false, .bool false]) (.agg #[.int .i64 5, .string s, .int .i64 0, .bool false, .bool false, .bool false])).run Try.prog w = .ok (.bool true) w := fun w => tokRefl_run { kind := 5, text := s } w
        clear hc hcell HT
        go_wp2_with (go_at_call 12; (with_reducible refine (awake_any _).mono ?_); rintro e w2 ⟨rfl, hb2⟩)
        go_ret
        exact ⟨rfl, below_seq hbw (below_seq hb1 hb2)⟩
      by_cases hj1 : k % 4 = 1
      · have hj := hj1
        have HT := Lib.hid (str_1 (q := 39) (by decide) (Q := ⟨#[39]⟩) rfl hT.1 hT.2)
        go_wp2_with (go_at_call 21; (with_reducible refine (round_any _ 4 1 _ (by decide) (by decide) hj).mono ?_); rintro e w1 ⟨rfl, rfl⟩)
        refine (allT_any _ _ (by simp only [ByteArray.size_append, show (⟨#[39]⟩ : ByteArray).size = 1 from rfl]; omega)).mono ?_
        rintro e w1 ⟨v1, rfl, hr1, hb1⟩
        rw [HT.out] at hr1
        obtain ⟨a, c, rfl, hle, hcell⟩ := hr1
        obtain ⟨b, rfl, hlt2, hc⟩ := hcell (by simp)
        rw [show ([{ kind := 5, text := s }] : List Tok).length = 1 from rfl] at hle ⊢
        have f0 := hc 0 _ rfl
        have f1 := hc 1 _ rfl
        have f2 := hc 2 _ rfl
        have f3 := hc 3 _ rfl
        have f4 := hc 4 _ rfl
        have f5 := hc 5 _ rfl
        have q0 : ∀ w : World, (binOp .eql 33 (.agg #[.int .i64 5, .string s, .int .i64 0, .bool false, .bool false, .bool false]) (.agg #[.int .i64 5, .string s, .int .i64 0, .bool false, .bool false, .bool false])).run Try.prog w = .ok (.bool true) w := fun w => tokRefl_run { kind := 5, text := s } w
        clear hc hcell HT
        go_wp2_with (go_at_call 12; (with_reducible refine (awake_any _).mono ?_); rintro e w2 ⟨rfl, hb2⟩)
        go_ret
        exact ⟨rfl, below_seq hbw (below_seq hb1 hb2)⟩
      by_cases hj2 : k % 4 = 2
      · have hj := hj2
        have HT := Lib.hid (str_2 (q := 39) (by decide) (Q := ⟨#[39]⟩) rfl hT.1 hT.2)
        go_wp2_with (go_at_call 21; (with_reducible refine (round_any _ 4 2 _ (by decide) (by decide) hj).mono ?_); rintro e w1 ⟨rfl, rfl⟩)
        refine (allT_any _ _ (by simp only [ByteArray.size_append, show (⟨#[39]⟩ : ByteArray).size = 1 from rfl, show (⟨#[10, 98]⟩ : ByteArray).size = 2 from rfl]; omega)).mono ?_
        rintro e w1 ⟨v1, rfl, hr1, hb1⟩
        rw [HT.out] at hr1
        obtain ⟨a, c, rfl, hle, hcell⟩ := hr1
        obtain ⟨b, rfl, hlt2, hc⟩ := hcell (by simp)
        rw [show ([{ kind := 6 }, { kind := 13 }, { kind := 1, text := ⟨#[98]⟩ }] : List Tok).length = 3 from rfl] at hle ⊢
        have f0 := hc 0 _ rfl
        have f1 := hc 1 _ rfl
        have f2 := hc 2 _ rfl
        have f3 := hc 3 _ rfl
        have f4 := hc 4 _ rfl
        have f5 := hc 5 _ rfl
        have f6 := hc 6 _ rfl
        have f13 := hc 13 _ rfl
        have q0 : ∀ w : World, (binOp .eql 33 (.agg #[.int .i64 6, .string ⟨#[]⟩, .int .i64 0, .bool false, .bool false, .bool false]) (.agg #[.int .i64 6, .string ⟨#[]⟩, .int .i64 0, .bool false, .bool false, .bool false])).run Try.prog w = .ok (.bool true) w := fun w => tokRefl_run { kind := 6 } w
        clear hc hcell HT
        go_wp2_with (go_at_call 12; (with_reducible refine (awake_any _).mono ?_); rintro e w2 ⟨rfl, hb2⟩)
        go_ret
        exact ⟨rfl, below_seq hbw (below_seq hb1 hb2)⟩
      · have hj : k % 4 = 3 := by omega
        have HT := Lib.hid (str_3 (q := 39) (by decide) (Q := ⟨#[39]⟩) rfl hT.1 hT.2)
        go_wp2_with (go_at_call 21; (with_reducible refine (round_any _ 4 3 _ (by decide) (by decide) hj).mono ?_); rintro e w1 ⟨rfl, rfl⟩)
        refine (allT_any _ _ (by simp only [ByteArray.size_append, show (⟨#[39]⟩ : ByteArray).size = 1 from rfl, show (⟨#[92, 10]⟩ : ByteArray).size = 2 from rfl]; omega)).mono ?_
        rintro e w1 ⟨v1, rfl, hr1, hb1⟩
        rw [HT.out] at hr1
        obtain ⟨a, c, rfl, hle, hcell⟩ := hr1
        obtain ⟨b, rfl, hlt2, hc⟩ := hcell (by simp)
        rw [show ([{ kind := 5, text := s ++ s }] : List Tok).length = 1 from rfl] at hle ⊢
        have f0 := hc 0 _ rfl
        have f1 := hc 1 _ rfl
        have f2 := hc 2 _ rfl
        have f3 := hc 3 _ rfl
        have f4 := hc 4 _ rfl
        have f5 := hc 5 _ rfl
        have q0 : ∀ w : World, (binOp .eql 33 (.agg #[.int .i64 5, .string (s ++ s), .int .i64 0, .bool false, .bool false, .bool false]) (.agg #[.int .i64 5, .string (s ++ s), .int .i64 0, .bool false, .bool false, .bool false])).run Try.prog w = .ok (.bool true) w := fun w => tokRefl_run { kind := 5, text := s ++ s } w
        clear hc hcell HT
        go_wp2_with (go_at_call 12; (with_reducible refine (awake_any _).mono ?_); rintro e w2 ⟨rfl, hb2⟩)
        go_ret
        exact ⟨rfl, below_seq hbw (below_seq hb1 hb2)⟩

theorem TokenStrings_any (w : World) (s : ByteArray) (_hs : s.size ≤ 9223372036854775807) (d : Bool) (k : Int) (_hk : (Lit.int .i64 k).wf = true) :
    Calls Try.prog 7 #[.string s, .bool d, .int .i64 k] w fun e w' => e = .returned (.bool true) ∧ Below w.heap.size w w' := by
  by_cases h5 : s.size ≤ 200
  · cases d
    · exact str_main39 w s k h5
    · exact str_main34 w s k h5
  · cases d
    · exact str_many39 w s k (by omega)
    · exact str_many34 w s k (by omega)
end Go.Proofs.Ytdfbkpmmmldoiaa
