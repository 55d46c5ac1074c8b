
import Derived.Test.YtkbodhhhphodiaaSyDw
import Derived.Test.YtkbodhhhphodiaaSyDx
namespace Go.Proofs.Ytkbodhhhphodiaa
open Go.RowKit
theorem short_lets (a k : Nat) : shortB (lets a k) = true := by
  unfold shortB lets
  rw [List.all_map, List.all_eq_true]
  intro i _
  rfl
theorem may_made {s : ByteArray} {l : List ByteArray} (h1 : symsB (madeD s l) = true) (h2 : shortB l = true) : mayB (madeD s l) = true := by
  unfold mayB textsB
  rw [h1, h2]
  rfl
theorem syms_nu2 (l : List ByteArray) (h : 2 ≤ l.length) (h2 : l.length ≤ 64) : symsB (madeD nuT l) = true := by
  have q : (nuT.toList == [110, 117, 109, 101, 114, 105, 99]) = true := by decide +kernel
  have t0 := sys_one q (b := [99, 121, 99, 108, 105, 99]) (by decide)
  have t1 := sys_one q (b := [102, 105, 120, 101, 100]) (by decide)
  have t2 := sys_one q (b := [115, 121, 109, 98, 111, 108, 105, 99]) (by decide)
  have t3 := sys_one q (b := [97, 108, 112, 104, 97, 98, 101, 116, 105, 99]) (by decide)
  unfold symsB isB
  rw [if_neg (by show ¬ 64 < l.length; omega)]
  simp only [t0, t1, t2, t3, q, Bool.or_false, Bool.or_true, if_true, Bool.false_eq_true, if_false]
  exact decide_eq_true h
theorem syms_al2 (l : List ByteArray) (h : 2 ≤ l.length) (h2 : l.length ≤ 64) : symsB (madeD alT l) = true := by
  have q : (alT.toList == [97, 108, 112, 104, 97, 98, 101, 116, 105, 99]) = true := by decide +kernel
  have t0 := sys_one q (b := [99, 121, 99, 108, 105, 99]) (by decide)
  have t1 := sys_one q (b := [102, 105, 120, 101, 100]) (by decide)
  have t2 := sys_one q (b := [115, 121, 109, 98, 111, 108, 105, 99]) (by decide)
  unfold symsB isB
  rw [if_neg (by show ¬ 64 < l.length; omega)]
  simp only [t0, t1, t2, q, Bool.or_false, Bool.true_or, if_true, Bool.false_eq_true, if_false]
  exact decide_eq_true h
theorem row_num (K N : Nat) (h : 2 ≤ K) (h2 : K ≤ 26) (hN : N ≤ 2147483648) : rowD (madeD nuT (lets 97 K)) (N : Int) = some (((N % K : Nat) : Int) :: dzD K (N / K)).reverse := by
  have hm := may_made (syms_nu2 (lets 97 K) (by rw [lets_len]; exact h) (by rw [lets_len]; omega)) (short_lets 97 K)
  have hn : nearB (N : Int) = true := decide_eq_true ⟨by omega, by omega⟩
  have q : (nuT.toList == [110, 117, 109, 101, 114, 105, 99]) = true := by decide +kernel
  have t0 := sys_one q (b := [99, 121, 99, 108, 105, 99]) (by decide)
  have t1 := sys_one q (b := [102, 105, 120, 101, 100]) (by decide)
  have t2 := sys_one q (b := [115, 121, 109, 98, 111, 108, 105, 99]) (by decide)
  have t3 := sys_one q (b := [97, 108, 112, 104, 97, 98, 101, 116, 105, 99]) (by decide)
  unfold rowD
  rw [if_pos ⟨hm, hn⟩]
  unfold placesD isB
  rw [if_neg (by rw [t0]; decide), if_neg (by rw [t1]; decide), if_neg (by omega), if_neg (by rw [t2]; decide), if_neg (by rw [t3]; decide), if_pos q, Int.toNat_natCast]
  show some (((N % (lets 97 K).length : Nat) : Int) :: dzD (lets 97 K).length (N / (lets 97 K).length)).reverse = _
  rw [lets_len]
theorem row_alp (K N : Nat) (h : 2 ≤ K) (h2 : K ≤ 26) (hN : N ≤ 2147483648) (hN0 : 1 ≤ N) : rowD (madeD alT (lets 97 K)) (N : Int) = some (wzD K N).reverse := by
  have hm := may_made (syms_al2 (lets 97 K) (by rw [lets_len]; exact h) (by rw [lets_len]; omega)) (short_lets 97 K)
  have hn : nearB (N : Int) = true := decide_eq_true ⟨by omega, by omega⟩
  have q : (alT.toList == [97, 108, 112, 104, 97, 98, 101, 116, 105, 99]) = true := by decide +kernel
  have t0 := sys_one q (b := [99, 121, 99, 108, 105, 99]) (by decide)
  have t1 := sys_one q (b := [102, 105, 120, 101, 100]) (by decide)
  have t2 := sys_one q (b := [115, 121, 109, 98, 111, 108, 105, 99]) (by decide)
  unfold rowD
  rw [if_pos ⟨hm, hn⟩]
  unfold placesD isB
  rw [if_neg (by rw [t0]; decide), if_neg (by rw [t1]; decide), if_neg (by omega), if_neg (by rw [t2]; decide), if_pos q, Int.toNat_natCast]
  show alphaD (lets 97 K).length N = _
  unfold alphaD
  rw [lets_len, if_neg (by omega)]
theorem text_row {d : DefD} {n : Int} {l : List Int} (h : rowD d n = some l) : signsT d n = ⟨(catD d.syms l).toArray⟩ ∧ signsB d n = true := by
  unfold signsT signsB
  rw [h]
  exact ⟨rfl, rfl⟩
set_option maxRecDepth 100000 in
set_option maxHeartbeats 1600000 in
theorem decodes_no (n base : Int) (letters : Bool) (w : World) (h : base < 2 ∨ 26 < base ∨ n < 0 ∨ 2147483648 < n ∨ letters = true ∧ n = 0) :
    Calls Try.prog 3 #[.int .i64 n, .int .i64 base, .bool letters] w fun e w' => e = .returned (.bool true) ∧ Below w.heap.size w w' := by
  by_cases h1 : base < 2
  · go_enter Try.func3, Try.ntmps3
    go_wp2_with (go_at_call 9; (with_reducible refine (awake_any _).mono ?_); rintro e w1 ⟨rfl, hb1⟩)
    go_ret
    exact ⟨rfl, hb1⟩
  have d1 : decide (base < 2) = false := decide_eq_false h1
  by_cases h2 : 26 < base
  · go_enter Try.func3, Try.ntmps3
    go_wp2_with (go_at_call 9; (with_reducible refine (awake_any _).mono ?_); rintro e w1 ⟨rfl, hb1⟩)
    go_ret
    exact ⟨rfl, hb1⟩
  have d2 : decide (26 < base) = false := decide_eq_false h2
  by_cases h3 : n < 0
  · go_enter Try.func3, Try.ntmps3
    go_wp2_with (go_at_call 9; (with_reducible refine (awake_any _).mono ?_); rintro e w1 ⟨rfl, hb1⟩)
    go_ret
    exact ⟨rfl, hb1⟩
  have d3 : decide (n < 0) = false := decide_eq_false h3
  by_cases h4 : 2147483648 < n
  · go_enter Try.func3, Try.ntmps3
    go_wp2_with (go_at_call 9; (with_reducible refine (awake_any _).mono ?_); rintro e w1 ⟨rfl, hb1⟩)
    go_ret
    exact ⟨rfl, hb1⟩
  have d4 : decide (2147483648 < n) = false := decide_eq_false h4
  obtain ⟨rfl, rfl⟩ : letters = true ∧ n = 0 := by
    rcases h with h | h | h | h | h
    · exact absurd h h1
    · exact absurd h h2
    · exact absurd h h3
    · exact absurd h h4
    · exact h
  clear h h3 d3 h4 d4
  go_enter Try.func3, Try.ntmps3
  go_wp2_with (go_at_call 9; (with_reducible refine (awake_any _).mono ?_); rintro e w1 ⟨rfl, hb1⟩)
  go_ret
  exact ⟨rfl, hb1⟩
theorem SystemDecodes_any (w : World) (n : Int) (_wn : (Lit.int .i64 n).wf = true) (base : Int) (_wb : (Lit.int .i64 base).wf = true) (letters : Bool) :
    Calls Try.prog 3 #[.int .i64 n, .int .i64 base, .bool letters] w fun e w' => e = .returned (.bool true) ∧ Below w.heap.size w w' := by
  by_cases h : base < 2 ∨ 26 < base ∨ n < 0 ∨ 2147483648 < n ∨ letters = true ∧ n = 0
  · exact decodes_no n base letters w h
  have g1 : ¬ base < 2 := fun hh => h (.inl hh)
  have g2 : ¬ 26 < base := fun hh => h (.inr (.inl hh))
  have g3 : ¬ n < 0 := fun hh => h (.inr (.inr (.inl hh)))
  have g4 : ¬ 2147483648 < n := fun hh => h (.inr (.inr (.inr (.inl hh))))
  have g5 : ¬ (letters = true ∧ n = 0) := fun hh => h (.inr (.inr (.inr (.inr hh))))
  clear h
  obtain ⟨K, rfl⟩ : ∃ K : Nat, base = (K : Int) := ⟨base.toNat, by omega⟩
  obtain ⟨N, rfl⟩ : ∃ N : Nat, n = (N : Int) := ⟨n.toNat, by omega⟩
  have hK1 : 2 ≤ K := by omega
  have hK2 : K ≤ 26 := by omega
  have hN : N ≤ 2147483648 := by omega
  cases letters
  · have hr := row_num K N hK1 hK2 hN
    have ht := text_row hr
    have hok := places_ok (d := madeD nuT (lets 97 K)) (n := (N : Int)) (l := (((N % K : Nat) : Int) :: dzD K (N / K)).reverse) (syms_nu2 (lets 97 K) (by rw [lets_len]; exact hK1) (by rw [lets_len]; omega)) (decide_eq_true ⟨by omega, by omega⟩) (by
      have h2 := hr
      unfold rowD at h2
      split at h2
      · exact h2
      · cases h2)
    have hD : Dig 97 K ⟨(catD (lets 97 K) (((N % K : Nat) : Int) :: dzD K (N / K)).reverse).toArray⟩ (((N % K : Nat) : Int) :: dzD K (N / K)).reverse := dig_of (by omega) _ (fun x hx => by
      have := hok.2 x hx
      rw [show (madeD nuT (lets 97 K)).syms.length = K from lets_len 97 K] at this
      exact this)
    refine decodes_num K N w hK1 hK2 hN _ _ ht hD (dec_num hK1 N) (by rw [List.length_reverse, List.length_cons]; omega) hok.1 (fun h0 => ?_)
    obtain ⟨x, r, e, hx⟩ := num_head hK1 N h0
    rw [e]
    exact hx
  · have hN0 : 1 ≤ N := by
      rcases Nat.eq_zero_or_pos N with h0 | h0
      · exact absurd ⟨rfl, by rw [h0]; rfl⟩ g5
      · exact h0
    have hr := row_alp K N hK1 hK2 hN hN0
    have ht := text_row hr
    have hok := places_ok (d := madeD alT (lets 97 K)) (n := (N : Int)) (l := (wzD K N).reverse) (syms_al2 (lets 97 K) (by rw [lets_len]; exact hK1) (by rw [lets_len]; omega)) (decide_eq_true ⟨by omega, by omega⟩) (by
      have h2 := hr
      unfold rowD at h2
      split at h2
      · exact h2
      · cases h2)
    have hD : Dig 97 K ⟨(catD (lets 97 K) (wzD K N).reverse).toArray⟩ (wzD K N).reverse := dig_of (by omega) _ (fun x hx => by
      have := hok.2 x hx
      rw [show (madeD alT (lets 97 K)).syms.length = K from lets_len 97 K] at this
      exact this)
    exact decodes_alp K N w hK1 hK2 hN hN0 _ _ ht hD (dec_wz K N N (Nat.le_refl _)) (by
      have := wz_ne K N hN0
      cases hl : (wzD K N).reverse with
      | nil => exact absurd hl this
      | cons a b => simp) hok.1
end Go.Proofs.Ytkbodhhhphodiaa
