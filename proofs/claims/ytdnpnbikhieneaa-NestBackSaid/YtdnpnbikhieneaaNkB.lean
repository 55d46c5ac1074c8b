
import Derived.Test.YtdnpnbikhieneaaNsG
import Derived.Test.YtdnpnbikhieneaaNsP
namespace Go.Proofs.Ytdnpnbikhieneaa
open Go.RowKit
theorem toks_size (s : ByteArray) : (toks (readS s)).length ≤ s.size := Nat.le_trans (toks_len_le _ _ (Nat.le_refl _)) (readS_length s)
theorem byte_at (s : ByteArray) (i : Nat) (h : i < s.size) : 0 ≤ (s[i].toNat : Int) ∧ (s[i].toNat : Int) ≤ 255 := by have := s[i].toNat_lt; omega
set_option maxRecDepth 100000 in
set_option maxHeartbeats 1600000 in
theorem nback_many (s : ByteArray) (w : World) (h : (1000 : Int) < (s.size : Int)) :
    Calls Try.prog 6 #[.string s] w fun e w' => e = .returned (.bool true) ∧ Below w.heap.size w w' := by
  go_enter Try.func6, Try.ntmps6
  go_wp2_with (go_at_call 17; (with_reducible refine (awake3_any _).mono ?_); rintro e w2 ⟨rfl, hb2⟩)
  go_ret
  exact ⟨rfl, hb2⟩
set_option maxRecDepth 100000 in
set_option maxHeartbeats 3200000 in
theorem nback_main (s : ByteArray) (w : World) (hs : s.size ≤ 1000) :
    Calls Try.prog 6 #[.string s] w fun e w' => e = .returned (.bool true) ∧ Below w.heap.size w w' := by
  have h1 : ¬ (1000 : Int) < (s.size : Int) := by omega
  have htl := toks_size s
  have hsl := szL_nds _ (toks (readS s)) (Nat.le_refl _)
  have hdp := (nds_ok _ (toks (readS s)) (Nat.le_refl _)).2
  have hdp2 : ¬ (32 : Int) < (dpL (ndsS (toks (readS s))) : Int) := by omega
  have hff := fl_len _ (ndsS (toks (readS s))) (Nat.le_refl _)
  have HB := Lib.hid (nds_flat (toks (readS s)))
  go_enter Try.func6, Try.ntmps6
  go_wp2_with fail
  refine (all3_any s w (by omega)).mono ?_
  rintro e w1 ⟨v1, rfl, hr1, hb1⟩
  go_wp2_with fail
  refine (nall_any w1 _ v1 hr1 (by omega)).mono ?_
  rintro e w2 ⟨⟨lv, rfl, hl⟩, hb2⟩
  generalize toks (readS s) = ts at *
  generalize ndsS ts = L at *
  obtain ⟨la, ln, lc, hlv⟩ := hl.sl
  subst hlv
  have HL2 := Lib.hid hl
  have HB2 := Lib.hid (below_seq hb1 hb2)
  clear hl hb1 hb2 hr1
  go_wp2_with fail
  refine (deep_any HL2.out (by omega)).mono ?_
  rintro e w3 ⟨rfl, hb3⟩
  have HL3 := Lib.hid (HL2.out.under hb3 (Nat.le_refl _))
  have HB3 := Lib.hid (below_seq HB2.out hb3)
  clear hb3
  have HBY := Lib.hid (byte_at s)
  go_wp2
  go_loop [4, 5, 6] (fun ov mv iv => ∃ o m i : Nat, ov = .int .i64 o ∧ mv = .int .i64 m ∧ iv = .int .i64 i ∧ o ≤ i ∧ m ≤ i ∧ i ≤ s.size) (fun _ _ iv => s.size - (intOf iv).toNat)
  case atStart => exact ⟨0, 0, 0, rfl, rfl, rfl, Nat.le_refl _, Nat.le_refl _, Nat.zero_le _⟩
  case round =>
    obtain ⟨o, m, i, rfl, rfl, rfl, ho, hm, hi⟩ := hrel
    by_cases hlt : i < s.size
    · obtain ⟨b1, b2⟩ := HBY.out i hlt
      go_wp2
      all_goals
        go_round
        case rel => first | exact ⟨o + 1, max m (o + 1), i + 1, by go_num, by congr 1; split <;> omega, by go_num, by omega, by omega, by omega⟩ | exact ⟨o, max m o, i + 1, rfl, by congr 1; split <;> omega, by go_num, by omega, by omega, by omega⟩
        case measure => simp [intOf]; omega
    · by_cases h32 : 32 ≤ m
      · have h33 : (32 : Int) ≤ (m : Int) := by omega
        go_wp2_with (go_at_call 17; (with_reducible refine (awake3_any _).mono ?_); rintro e w4 ⟨rfl, hb4⟩)
        go_ret
        exact ⟨rfl, below_seq HB3.out hb4⟩
      · have h33 : ¬ (32 : Int) ≤ (m : Int) := by omega
        go_wp2_with fail
        refine (flat_any HL3.out (by omega)).mono ?_
        rintro e w4 ⟨⟨v4, rfl, hr4⟩, hb4⟩
        go_wp2_with fail
        refine (nall_any w4 _ v4 hr4 (by omega)).mono ?_
        rintro e w5 ⟨⟨mv, rfl, hm5⟩, hb5⟩
        rw [HB.out] at hm5
        have HL5 := Lib.hid ((HL3.out.under hb4 (Nat.le_refl _)).under hb5 (Nat.le_refl _))
        have HM5 := Lib.hid hm5
        have HB5 := Lib.hid (below_seq (below_seq HB3.out hb4) hb5)
        clear hr4 hb4 hb5 hm5
        go_wp2_with fail
        refine (same_any HM5.out HL5.out (by omega)).mono ?_
        rintro e w6 ⟨rfl, hb6⟩
        go_wp2_with fail
        refine (refsame_any _ L (Nat.le_refl _) (by omega) _ _ _ _ _ (HM5.out.under hb6 (Nat.le_refl _)) (HL5.out.under hb6 (Nat.le_refl _))).mono ?_
        rintro e w7 ⟨rfl, k7, rfl⟩
        go_wp2_with (go_at_call 17; (with_reducible refine (awake3_any _).mono ?_); rintro e w8 ⟨rfl, hb8⟩)
        go_ret
        exact ⟨rfl, below_seq (below_seq (below_seq HB5.out hb6) (below_drewN _ _)) hb8⟩
theorem NestBack_any (w : World) (s : ByteArray) (_hs : s.size ≤ 9223372036854775807) :
    Calls Try.prog 6 #[.string s] w fun e w' => e = .returned (.bool true) ∧ Below w.heap.size w w' := by
  by_cases h : (1000 : Int) < (s.size : Int)
  · exact nback_many s w h
  · exact nback_main s w (by omega)
end Go.Proofs.Ytdnpnbikhieneaa
