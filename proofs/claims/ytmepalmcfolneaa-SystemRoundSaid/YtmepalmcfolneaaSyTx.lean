
import Derived.Test.YtmepalmcfolneaaSyTm
namespace Go.Proofs.Ytmepalmcfolneaa
open Go.RowKit
set_option maxRecDepth 100000 in
set_option maxHeartbeats 1600000 in
theorem round_no (k n first : Int) (w : World) (h : k < 1 ∨ 30 < k ∨ n < -2147483648 ∨ 2147483648 ≤ n ∨ first < -1000 ∨ 1000 < first) :
    Calls Try.prog 3 #[.int .i64 k, .int .i64 n, .int .i64 first] w fun e w' => e = .returned (.bool true) ∧ Below w.heap.size w w' := by
  by_cases h1 : k < 1
  · have h1d : decide (k < 1) = true := decide_eq_true h1
    go_enter Try.func3, Try.ntmps3
    go_wp2_with (go_at_call 4; (with_reducible refine (awake_any _).mono ?_); rintro e w1 ⟨rfl, hb1⟩)
    go_ret
    exact ⟨rfl, hb1⟩
  have h1d : decide (k < 1) = false := decide_eq_false h1
  by_cases h2 : 30 < k
  · have h2d : decide (30 < k) = true := decide_eq_true h2
    go_enter Try.func3, Try.ntmps3
    go_wp2_with (go_at_call 4; (with_reducible refine (awake_any _).mono ?_); rintro e w1 ⟨rfl, hb1⟩)
    go_ret
    exact ⟨rfl, hb1⟩
  have h2d : decide (30 < k) = false := decide_eq_false h2
  by_cases h3 : n < -2147483648
  · have h3d : decide (n < -2147483648) = true := decide_eq_true h3
    go_enter Try.func3, Try.ntmps3
    go_wp2_with (go_at_call 4; (with_reducible refine (awake_any _).mono ?_); rintro e w1 ⟨rfl, hb1⟩)
    go_ret
    exact ⟨rfl, hb1⟩
  have h3d : decide (n < -2147483648) = false := decide_eq_false h3
  by_cases h4 : 2147483648 ≤ n
  · have h4d : decide (2147483648 ≤ n) = true := decide_eq_true h4
    go_enter Try.func3, Try.ntmps3
    go_wp2_with (go_at_call 4; (with_reducible refine (awake_any _).mono ?_); rintro e w1 ⟨rfl, hb1⟩)
    go_ret
    exact ⟨rfl, hb1⟩
  have h4d : decide (2147483648 ≤ n) = false := decide_eq_false h4
  by_cases h5 : first < -1000
  · have h5d : decide (first < -1000) = true := decide_eq_true h5
    go_enter Try.func3, Try.ntmps3
    go_wp2_with (go_at_call 4; (with_reducible refine (awake_any _).mono ?_); rintro e w1 ⟨rfl, hb1⟩)
    go_ret
    exact ⟨rfl, hb1⟩
  have h5d : decide (first < -1000) = false := decide_eq_false h5
  have h6 : 1000 < first := by omega
  have h6d : decide (1000 < first) = true := decide_eq_true h6
  go_enter Try.func3, Try.ntmps3
  go_wp2_with (go_at_call 4; (with_reducible refine (awake_any _).mono ?_); rintro e w1 ⟨rfl, hb1⟩)
  go_ret
  exact ⟨rfl, hb1⟩
theorem SystemRound_any (w : World) (k : Int) (_wk : (Lit.int .i64 k).wf = true) (n : Int) (_wn : (Lit.int .i64 n).wf = true) (first : Int) (_wf : (Lit.int .i64 first).wf = true) :
    Calls Try.prog 3 #[.int .i64 k, .int .i64 n, .int .i64 first] w fun e w' => e = .returned (.bool true) ∧ Below w.heap.size w w' := by
  by_cases hb : k < 1 ∨ 30 < k ∨ n < -2147483648 ∨ 2147483648 ≤ n ∨ first < -1000 ∨ 1000 < first
  · exact round_no k n first w hb
  · obtain ⟨K, rfl⟩ : ∃ K : Nat, k = (K : Int) := ⟨k.toNat, by omega⟩
    exact round_main K n first w (by omega) (by omega) (by omega) (by omega) (by omega) (by omega)
end Go.Proofs.Ytmepalmcfolneaa
