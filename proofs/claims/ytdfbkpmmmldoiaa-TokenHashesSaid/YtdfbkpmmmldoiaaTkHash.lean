
import Derived.Test.YtdfbkpmmmldoiaaTkX
namespace Go.Proofs.Ytdfbkpmmmldoiaa
open Go.RowKit

def hashL (s : ByteArray) (id : Bool) : List Tok := [{ kind := 4, text := s, id := id }, { kind := 17 }, { kind := 9, text := ⟨#[35]⟩ }]
def NamesOk (s : ByteArray) (k : Nat) : Prop := ∀ j, j < k → sName (nth (nums s) j) = true ∧ nth (nums s) j < 128
def hashId (s : ByteArray) : Bool := sLetter (nth (nums s) 0) || (decide (nth (nums s) 0 = 45) && (decide (1 < s.size) && (decide (nth (nums s) 1 = 45) || sLetter (nth (nums s) 1))))

theorem name_bd {x : Int} (h : sName x = true) : 45 ≤ x := by
  unfold sName sLetter sDigit at h
  simp at h
  omega
theorem hash_toks (s : ByteArray) (hl : 1 ≤ s.size) (h : NamesOk s s.size) : toks (readS (⟨#[35]⟩ ++ s ++ ⟨#[59, 35]⟩)) = hashL s (hashId s) := by
  have hn : ∀ x ∈ nums s, sName x = true ∧ x < 128 := fun x hx => by
    obtain ⟨j, hj, rfl⟩ := mem_nth hx
    rw [nums_length] at hj
    exact h j hj
  have e0 : nums (⟨#[35]⟩ ++ s ++ ⟨#[59, 35]⟩) = 35 :: (nums s ++ [59, 35]) := by
    rw [nums_append, nums_append]
    rfl
  rw [ascii_read _ (fun x hx => by
    rw [e0] at hx
    simp only [List.mem_cons, List.mem_append, List.not_mem_nil, or_false] at hx
    rcases hx with rfl | hx | rfl | rfl
    · omega
    · have h1 := hn x hx
      have h2 := name_bd h1.1
      omega
    · omega
    · omega), e0]
  have hll : (nums s).length = s.size := nums_length s
  rw [toks_cons (pre_ah (by show (35 : Int) ≠ 47; decide) (by decide) (by decide)) (by simp), tokT_hash (by omega) (fun x hx => (hn x hx).1) (by decide) (by decide)]
  have e1 : toks [59, 35] = [{ kind := 17 }, { kind := 9, text := ⟨#[35]⟩ }] := by kernel_rfl
  simp only []
  rw [e1, runes_nums s (fun x hx => by have h1 := hn x hx; have h2 := name_bd h1.1; omega)]
  have e2 : nbg (nums s ++ [59, 35]) 0 = hashId s := by
    have a0 : ah (nums s ++ [59, 35]) 0 = nth (nums s) 0 := ah_left (by omega)
    have h0 := hn _ (nth_mem (l := nums s) (j := 0) (by omega))
    have hne : nth (nums s) 0 ≠ 92 := by intro e; rw [e] at h0; exact absurd h0.1 (by decide)
    unfold nbg hashId
    rw [a0]
    by_cases h45 : nth (nums s) 0 = 45
    · rw [if_pos h45]
      have hf : sLetter (nth (nums s) 0) = false := by rw [h45]; decide
      rw [hf]
      by_cases h1 : 1 < s.size
      · have a1 : ah (nums s ++ [59, 35]) 1 = nth (nums s) 1 := ah_left (by omega)
        have h2 := hn _ (nth_mem (l := nums s) (j := 1) (by omega))
        have hne2 : nth (nums s) 1 ≠ 92 := by intro e; rw [e] at h2; exact absurd h2.1 (by decide)
        have he : esc (nums s ++ [59, 35]) 1 = false := by unfold esc; rw [a1]; simp [hne2]
        rw [a1, he]
        simp [h45, h1, Bool.or_comm]
      · have hs1 : (nums s).length = 1 := by omega
        have a1 : ah (nums s ++ [59, 35]) 1 = 59 := by rw [ah_right (by omega), hs1]; rfl
        have he : esc (nums s ++ [59, 35]) 1 = false := by unfold esc; rw [a1]; simp
        rw [a1, he]
        simp [h45, h1]
        decide
    · rw [if_neg h45]
      have he : esc (nums s ++ [59, 35]) 0 = false := by unfold esc; rw [a0]; simp [hne]
      rw [he]
      simp [h45]
  rw [e2]
  rfl

set_option maxRecDepth 100000 in
set_option maxHeartbeats 1600000 in
theorem hash_few (w : World) (s : ByteArray) (h2 : (s.size : Int) < 1) :
    Calls Try.prog 11 #[.string s] w fun e w' => e = .returned (.bool true) ∧ Below w.heap.size w w' := by
  go_enter Try.func11, Try.ntmps11
  go_wp2_with (go_at_call 12; (with_reducible refine (awake_any _).mono ?_); rintro e w1 ⟨rfl, hb1⟩)
  go_ret
  exact ⟨rfl, hb1⟩
set_option maxRecDepth 100000 in
set_option maxHeartbeats 1600000 in
theorem hash_many (w : World) (s : ByteArray) (hs : s.size ≤ 9223372036854775807) (h3 : (30 : Int) < (s.size : Int)) :
    Calls Try.prog 11 #[.string s] w fun e w' => e = .returned (.bool true) ∧ Below w.heap.size w w' := by
  have h2 : ¬ (s.size : Int) < 1 := by omega
  go_enter Try.func11, Try.ntmps11
  go_wp2_with (go_at_call 12; (with_reducible refine (awake_any _).mono ?_); rintro e w1 ⟨rfl, hb1⟩)
  go_ret
  exact ⟨rfl, hb1⟩
set_option maxRecDepth 100000 in
set_option maxHeartbeats 1600000 in
theorem hash_main (w : World) (s : ByteArray) (h4 : 1 ≤ s.size) (h5 : s.size ≤ 30) :
    Calls Try.prog 11 #[.string s] w fun e w' => e = .returned (.bool true) ∧ Below w.heap.size w w' := by
  have h2 : ¬ (s.size : Int) < 1 := by omega
  have h3 : ¬ (30 : Int) < (s.size : Int) := by omega
  go_enter Try.func11, Try.ntmps11
  go_wp2
  go_loopw [3] (fun i wr => ∃ k : Nat, k ≤ s.size ∧ i = .int .i64 k ∧ wr = w ∧ NamesOk s k) (fun i _ => s.size - (intOf i).toNat)
  case atStart => exact ⟨0, Nat.zero_le _, rfl, rfl, fun j hj => absurd hj (by omega)⟩
  case round =>
    obtain ⟨k, hk, rfl, rfl, hall⟩ := hrel
    have HALL := Lib.hid hall
    clear hall
    by_cases hlt : k < s.size
    · have HNTH := Lib.hid (show nth (nums s) k = (s[k].toNat : Int) from nums_at s k hlt)
      have hbd := nums_bd s k hlt
      have b1 : (s[k].toNat : Int) ≤ 255 := by have := HNTH.out; omega
      clear hbd
      by_cases hn : sName (s[k].toNat : Int) = true
      · by_cases hx : (128 : Int) ≤ (s[k].toNat : Int)
        · go_wp2_with (first | (go_at_call 24; refine (refname_any _ _).mono ?_; rintro e w1 ⟨rfl, rfl⟩) | (go_at_call 12; (with_reducible refine (awake_any _).mono ?_); rintro e w1 ⟨rfl, hb1⟩))
          go_ret
          exact ⟨rfl, hb1⟩
        · have hx2 : (s[k].toNat : Int) < 128 := by omega
          have HN := Lib.hid hn
          go_wp2_with (first | (go_at_call 24; refine (refname_any _ _).mono ?_; rintro e w1 ⟨rfl, rfl⟩) | (go_at_call 12; (with_reducible refine (awake_any _).mono ?_); rintro e w1 ⟨rfl, hb1⟩))
          go_roundw
          case rel =>
            refine ⟨k + 1, by omega, by go_num, trivial, fun j hj => ?_⟩
            by_cases e : j = k
            · rw [e, HNTH.out]
              exact ⟨HN.out, hx2⟩
            · exact HALL.out j (by omega)
          case measure => simp [intOf]; omega
      · have hn2 : sName (s[k].toNat : Int) = false := by simpa using hn
        clear hn
        go_wp2_with (first | (go_at_call 24; refine (refname_any _ _).mono ?_; rintro e w1 ⟨rfl, rfl⟩) | (go_at_call 12; (with_reducible refine (awake_any _).mono ?_); rintro e w1 ⟨rfl, hb1⟩))
        go_ret
        exact ⟨rfl, hb1⟩
    · have hp0 : 0 < s.size := by omega
      have HT := Lib.hid (hash_toks s h4 (by rw [show s.size = k by omega]; exact HALL.out))
      have HN0 := Lib.hid (show nth (nums s) 0 = (s[0].toNat : Int) from nums_at s 0 hp0)
      have hbd := nums_bd s 0 hp0
      have b0 : (s[0].toNat : Int) ≤ 255 := by have := HN0.out; omega
      have hsz : (⟨#[35]⟩ ++ s ++ ⟨#[59, 35]⟩ : ByteArray).size ≤ 100000000 := by
        rw [ByteArray.size_append, ByteArray.size_append]
        show 1 + s.size + 2 ≤ _
        omega
      clear hbd
      by_cases l0 : sLetter (s[0].toNat : Int) = true
      · have HI := Lib.hid (show hashId s = true by unfold hashId; rw [HN0.out, l0]; rfl)
        go_wp2_with (first | (go_at_call 25; refine (refletter_any _ _).mono ?_; rintro e w1 ⟨rfl, rfl⟩))
        refine (allT_any _ _ hsz).mono ?_
        rintro e w1 ⟨v1, rfl, hr1, hb1⟩
        rw [HT.out, HI.out] at hr1
        obtain ⟨a, c, rfl, hle, hcell⟩ := hr1
        obtain ⟨b, rfl, hlt2, hc⟩ := hcell (by simp [hashL])
        rw [show (hashL s true).length = 3 from rfl] at hle ⊢
        have f0 := hc 0 _ rfl
        have f1 := hc 1 _ rfl
        have f2 := hc 2 _ rfl
        have f3 := hc 3 _ rfl
        have f4 := hc 4 _ rfl
        have f5 := hc 5 _ rfl
        have f12 := hc 12 _ rfl
        have f13 := hc 13 _ rfl
        have f14 := hc 14 _ rfl
        have f15 := hc 15 _ rfl
        have f16 := hc 16 _ rfl
        have f17 := hc 17 _ rfl
        have q0 : ∀ w : World, (binOp .eql 33 (.agg #[.int .i64 4, .string s, .int .i64 0, .bool false, .bool false, .bool true]) (.agg #[.int .i64 4, .string s, .int .i64 0, .bool false, .bool false, .bool true])).run Try.prog w = .ok (.bool true) w := fun w => tokRefl_run { kind := 4, text := s, id := true } w
        have q2 : ∀ w : World, (binOp .eql 33 (.agg #[.int .i64 9, .string ⟨#[35]⟩, .int .i64 0, .bool false, .bool false, .bool false]) (.agg #[.int .i64 9, .string ⟨#[35]⟩, .int .i64 0, .bool false, .bool false, .bool false])).run Try.prog w = .ok (.bool true) w := fun w => tokRefl_run { kind := 9, text := ⟨#[35]⟩ } w
        clear hc hcell
        go_wp2_with (go_at_call 12; (with_reducible refine (awake_any _).mono ?_); rintro e w2 ⟨rfl, hb2⟩)
        go_ret
        exact ⟨rfl, below_seq hb1 hb2⟩
      · have l0f : sLetter (s[0].toNat : Int) = false := by simpa using l0
        clear l0
        by_cases d0 : (s[0].toNat : Int) = 45
        · have d0b : ((s[0].toNat : Int) == 45) = true := by simp [d0]
          by_cases z : 1 < s.size
          · have zi : (1 : Int) < (s.size : Int) := by omega
            have HN1 := Lib.hid (show nth (nums s) 1 = (s[1].toNat : Int) from nums_at s 1 z)
            have hbd := nums_bd s 1 z
            have b1 : (s[1].toNat : Int) ≤ 255 := by have := HN1.out; omega
            clear hbd
            by_cases d1 : (s[1].toNat : Int) = 45
            · have d1b : ((s[1].toNat : Int) == 45) = true := by simp [d1]
              have HI := Lib.hid (show hashId s = true by unfold hashId; rw [HN0.out, HN1.out, d0, d1]; simp [z])
              clear d0 d1
              go_wp2_with (first | (go_at_call 25; refine (refletter_any _ _).mono ?_; rintro e w1 ⟨rfl, rfl⟩))
              refine (allT_any _ _ hsz).mono ?_
              rintro e w1 ⟨v1, rfl, hr1, hb1⟩
              rw [HT.out, HI.out] at hr1
              obtain ⟨a, c, rfl, hle, hcell⟩ := hr1
              obtain ⟨b, rfl, hlt2, hc⟩ := hcell (by simp [hashL])
              rw [show (hashL s true).length = 3 from rfl] at hle ⊢
              have f0 := hc 0 _ rfl
              have f1 := hc 1 _ rfl
              have f2 := hc 2 _ rfl
              have f3 := hc 3 _ rfl
              have f4 := hc 4 _ rfl
              have f5 := hc 5 _ rfl
              have f12 := hc 12 _ rfl
              have f13 := hc 13 _ rfl
              have f14 := hc 14 _ rfl
              have f15 := hc 15 _ rfl
              have f16 := hc 16 _ rfl
              have f17 := hc 17 _ rfl
              have q0 : ∀ w : World, (binOp .eql 33 (.agg #[.int .i64 4, .string s, .int .i64 0, .bool false, .bool false, .bool true]) (.agg #[.int .i64 4, .string s, .int .i64 0, .bool false, .bool false, .bool true])).run Try.prog w = .ok (.bool true) w := fun w => tokRefl_run { kind := 4, text := s, id := true } w
              have q2 : ∀ w : World, (binOp .eql 33 (.agg #[.int .i64 9, .string ⟨#[35]⟩, .int .i64 0, .bool false, .bool false, .bool false]) (.agg #[.int .i64 9, .string ⟨#[35]⟩, .int .i64 0, .bool false, .bool false, .bool false])).run Try.prog w = .ok (.bool true) w := fun w => tokRefl_run { kind := 9, text := ⟨#[35]⟩ } w
              clear hc hcell
              go_wp2_with (go_at_call 12; (with_reducible refine (awake_any _).mono ?_); rintro e w2 ⟨rfl, hb2⟩)
              go_ret
              exact ⟨rfl, below_seq hb1 hb2⟩
            · have d1b : ((s[1].toNat : Int) == 45) = false := by simp [d1]
              by_cases l1 : sLetter (s[1].toNat : Int) = true
              · have HI := Lib.hid (show hashId s = true by unfold hashId; rw [HN0.out, HN1.out, l1, d0]; simp [z])
                clear d0 d1
                go_wp2_with (first | (go_at_call 25; refine (refletter_any _ _).mono ?_; rintro e w1 ⟨rfl, rfl⟩))
                refine (allT_any _ _ hsz).mono ?_
                rintro e w1 ⟨v1, rfl, hr1, hb1⟩
                rw [HT.out, HI.out] at hr1
                obtain ⟨a, c, rfl, hle, hcell⟩ := hr1
                obtain ⟨b, rfl, hlt2, hc⟩ := hcell (by simp [hashL])
                rw [show (hashL s true).length = 3 from rfl] at hle ⊢
                have f0 := hc 0 _ rfl
                have f1 := hc 1 _ rfl
                have f2 := hc 2 _ rfl
                have f3 := hc 3 _ rfl
                have f4 := hc 4 _ rfl
                have f5 := hc 5 _ rfl
                have f12 := hc 12 _ rfl
                have f13 := hc 13 _ rfl
                have f14 := hc 14 _ rfl
                have f15 := hc 15 _ rfl
                have f16 := hc 16 _ rfl
                have f17 := hc 17 _ rfl
                have q0 : ∀ w : World, (binOp .eql 33 (.agg #[.int .i64 4, .string s, .int .i64 0, .bool false, .bool false, .bool true]) (.agg #[.int .i64 4, .string s, .int .i64 0, .bool false, .bool false, .bool true])).run Try.prog w = .ok (.bool true) w := fun w => tokRefl_run { kind := 4, text := s, id := true } w
                have q2 : ∀ w : World, (binOp .eql 33 (.agg #[.int .i64 9, .string ⟨#[35]⟩, .int .i64 0, .bool false, .bool false, .bool false]) (.agg #[.int .i64 9, .string ⟨#[35]⟩, .int .i64 0, .bool false, .bool false, .bool false])).run Try.prog w = .ok (.bool true) w := fun w => tokRefl_run { kind := 9, text := ⟨#[35]⟩ } w
                clear hc hcell
                go_wp2_with (go_at_call 12; (with_reducible refine (awake_any _).mono ?_); rintro e w2 ⟨rfl, hb2⟩)
                go_ret
                exact ⟨rfl, below_seq hb1 hb2⟩
              · have l1f : sLetter (s[1].toNat : Int) = false := by simpa using l1
                have HI := Lib.hid (show hashId s = false by unfold hashId; rw [HN0.out, HN1.out, l1f, l0f]; simp [d1])
                clear d0 d1 l1
                go_wp2_with (first | (go_at_call 25; refine (refletter_any _ _).mono ?_; rintro e w1 ⟨rfl, rfl⟩))
                refine (allT_any _ _ hsz).mono ?_
                rintro e w1 ⟨v1, rfl, hr1, hb1⟩
                rw [HT.out, HI.out] at hr1
                obtain ⟨a, c, rfl, hle, hcell⟩ := hr1
                obtain ⟨b, rfl, hlt2, hc⟩ := hcell (by simp [hashL])
                rw [show (hashL s false).length = 3 from rfl] at hle ⊢
                have f0 := hc 0 _ rfl
                have f1 := hc 1 _ rfl
                have f2 := hc 2 _ rfl
                have f3 := hc 3 _ rfl
                have f4 := hc 4 _ rfl
                have f5 := hc 5 _ rfl
                have f12 := hc 12 _ rfl
                have f13 := hc 13 _ rfl
                have f14 := hc 14 _ rfl
                have f15 := hc 15 _ rfl
                have f16 := hc 16 _ rfl
                have f17 := hc 17 _ rfl
                have q0 : ∀ w : World, (binOp .eql 33 (.agg #[.int .i64 4, .string s, .int .i64 0, .bool false, .bool false, .bool false]) (.agg #[.int .i64 4, .string s, .int .i64 0, .bool false, .bool false, .bool false])).run Try.prog w = .ok (.bool true) w := fun w => tokRefl_run { kind := 4, text := s, id := false } w
                have q2 : ∀ w : World, (binOp .eql 33 (.agg #[.int .i64 9, .string ⟨#[35]⟩, .int .i64 0, .bool false, .bool false, .bool false]) (.agg #[.int .i64 9, .string ⟨#[35]⟩, .int .i64 0, .bool false, .bool false, .bool false])).run Try.prog w = .ok (.bool true) w := fun w => tokRefl_run { kind := 9, text := ⟨#[35]⟩ } w
                clear hc hcell
                go_wp2_with (go_at_call 12; (with_reducible refine (awake_any _).mono ?_); rintro e w2 ⟨rfl, hb2⟩)
                go_ret
                exact ⟨rfl, below_seq hb1 hb2⟩
          · have zi : ¬ (1 : Int) < (s.size : Int) := by omega
            have HI := Lib.hid (show hashId s = false by unfold hashId; rw [HN0.out, l0f]; simp [z])
            clear d0
            go_wp2_with (first | (go_at_call 25; refine (refletter_any _ _).mono ?_; rintro e w1 ⟨rfl, rfl⟩))
            refine (allT_any _ _ hsz).mono ?_
            rintro e w1 ⟨v1, rfl, hr1, hb1⟩
            rw [HT.out, HI.out] at hr1
            obtain ⟨a, c, rfl, hle, hcell⟩ := hr1
            obtain ⟨b, rfl, hlt2, hc⟩ := hcell (by simp [hashL])
            rw [show (hashL s false).length = 3 from rfl] at hle ⊢
            have f0 := hc 0 _ rfl
            have f1 := hc 1 _ rfl
            have f2 := hc 2 _ rfl
            have f3 := hc 3 _ rfl
            have f4 := hc 4 _ rfl
            have f5 := hc 5 _ rfl
            have f12 := hc 12 _ rfl
            have f13 := hc 13 _ rfl
            have f14 := hc 14 _ rfl
            have f15 := hc 15 _ rfl
            have f16 := hc 16 _ rfl
            have f17 := hc 17 _ rfl
            have q0 : ∀ w : World, (binOp .eql 33 (.agg #[.int .i64 4, .string s, .int .i64 0, .bool false, .bool false, .bool false]) (.agg #[.int .i64 4, .string s, .int .i64 0, .bool false, .bool false, .bool false])).run Try.prog w = .ok (.bool true) w := fun w => tokRefl_run { kind := 4, text := s, id := false } w
            have q2 : ∀ w : World, (binOp .eql 33 (.agg #[.int .i64 9, .string ⟨#[35]⟩, .int .i64 0, .bool false, .bool false, .bool false]) (.agg #[.int .i64 9, .string ⟨#[35]⟩, .int .i64 0, .bool false, .bool false, .bool false])).run Try.prog w = .ok (.bool true) w := fun w => tokRefl_run { kind := 9, text := ⟨#[35]⟩ } w
            clear hc hcell
            go_wp2_with (go_at_call 12; (with_reducible refine (awake_any _).mono ?_); rintro e w2 ⟨rfl, hb2⟩)
            go_ret
            exact ⟨rfl, below_seq hb1 hb2⟩
        · have d0b : ((s[0].toNat : Int) == 45) = false := by simp [d0]
          have HI := Lib.hid (show hashId s = false by unfold hashId; rw [HN0.out, l0f]; simp [d0])
          clear d0
          go_wp2_with (first | (go_at_call 25; refine (refletter_any _ _).mono ?_; rintro e w1 ⟨rfl, rfl⟩))
          refine (allT_any _ _ hsz).mono ?_
          rintro e w1 ⟨v1, rfl, hr1, hb1⟩
          rw [HT.out, HI.out] at hr1
          obtain ⟨a, c, rfl, hle, hcell⟩ := hr1
          obtain ⟨b, rfl, hlt2, hc⟩ := hcell (by simp [hashL])
          rw [show (hashL s false).length = 3 from rfl] at hle ⊢
          have f0 := hc 0 _ rfl
          have f1 := hc 1 _ rfl
          have f2 := hc 2 _ rfl
          have f3 := hc 3 _ rfl
          have f4 := hc 4 _ rfl
          have f5 := hc 5 _ rfl
          have f12 := hc 12 _ rfl
          have f13 := hc 13 _ rfl
          have f14 := hc 14 _ rfl
          have f15 := hc 15 _ rfl
          have f16 := hc 16 _ rfl
          have f17 := hc 17 _ rfl
          have q0 : ∀ w : World, (binOp .eql 33 (.agg #[.int .i64 4, .string s, .int .i64 0, .bool false, .bool false, .bool false]) (.agg #[.int .i64 4, .string s, .int .i64 0, .bool false, .bool false, .bool false])).run Try.prog w = .ok (.bool true) w := fun w => tokRefl_run { kind := 4, text := s, id := false } w
          have q2 : ∀ w : World, (binOp .eql 33 (.agg #[.int .i64 9, .string ⟨#[35]⟩, .int .i64 0, .bool false, .bool false, .bool false]) (.agg #[.int .i64 9, .string ⟨#[35]⟩, .int .i64 0, .bool false, .bool false, .bool false])).run Try.prog w = .ok (.bool true) w := fun w => tokRefl_run { kind := 9, text := ⟨#[35]⟩ } w
          clear hc hcell
          go_wp2_with (go_at_call 12; (with_reducible refine (awake_any _).mono ?_); rintro e w2 ⟨rfl, hb2⟩)
          go_ret
          exact ⟨rfl, below_seq hb1 hb2⟩

theorem TokenHashes_any (w : World) (s : ByteArray) (hs : s.size ≤ 9223372036854775807) :
    Calls Try.prog 11 #[.string s] w fun e w' => e = .returned (.bool true) ∧ Below w.heap.size w w' := by
  by_cases h1 : s.size < 1
  · exact hash_few w s (by omega)
  · by_cases h2 : 30 < s.size
    · exact hash_many w s hs (by omega)
    · exact hash_main w s (by omega) (by omega)
end Go.Proofs.Ytdfbkpmmmldoiaa
