
import Derived.Test.YtkbodhhhphodiaaSyAw
namespace Go.Proofs.Ytkbodhhhphodiaa
open Go.RowKit
set_option maxRecDepth 100000 in
set_option maxHeartbeats 1600000 in
theorem adds_no (n : Int) (xs : List Int) (v : Value) (w : World) (hv : Rd .i64 w v xs) (h : xs.length < 1 ∨ 12 < xs.length ∨ n < 1 ∨ 2147483648 < n) :
    Calls Try.prog 5 #[v, .int .i64 n] w fun e w' => e = .returned (.bool true) ∧ Below w.heap.size w w' := by
  obtain ⟨a, c, rfl, _, _⟩ := hv
  by_cases h1 : (xs.length : Int) < 1
  · go_enter Try.func5, Try.ntmps5
    go_wp2_with (go_at_call 9; (with_reducible refine (awake_any _).mono ?_); rintro e w1 ⟨rfl, hb1⟩)
    go_ret
    exact ⟨rfl, hb1⟩
  have d1 : decide ((xs.length : Int) < 1) = false := decide_eq_false h1
  by_cases h2 : (12 : Int) < (xs.length : Int)
  · go_enter Try.func5, Try.ntmps5
    go_wp2_with (go_at_call 9; (with_reducible refine (awake_any _).mono ?_); rintro e w1 ⟨rfl, hb1⟩)
    go_ret
    exact ⟨rfl, hb1⟩
  have d2 : decide ((12 : Int) < (xs.length : Int)) = false := decide_eq_false h2
  by_cases h3 : n < 1
  · go_enter Try.func5, Try.ntmps5
    go_wp2_with (go_at_call 9; (with_reducible refine (awake_any _).mono ?_); rintro e w1 ⟨rfl, hb1⟩)
    go_ret
    exact ⟨rfl, hb1⟩
  have d3 : decide (n < 1) = false := decide_eq_false h3
  have h4 : 2147483648 < n := by omega
  go_enter Try.func5, Try.ntmps5
  go_wp2_with (go_at_call 9; (with_reducible refine (awake_any _).mono ?_); rintro e w1 ⟨rfl, hb1⟩)
  go_ret
  exact ⟨rfl, hb1⟩
theorem SystemAdds_any (w : World) (xs : List Int) (v : Value) (h : Rd .i64 w v xs) (_wx : ∀ x ∈ xs, (Lit.int .i64 x).wf = true) (_hl : xs.length ≤ maxLen) (n : Int) (_wn : (Lit.int .i64 n).wf = true) :
    Calls Try.prog 5 #[v, .int .i64 n] w fun e w' => e = .returned (.bool true) ∧ Below w.heap.size w w' := by
  by_cases hb : xs.length < 1 ∨ 12 < xs.length ∨ n < 1 ∨ 2147483648 < n
  · exact adds_no n xs v w h hb
  · obtain ⟨N, rfl⟩ : ∃ N : Nat, n = (N : Int) := ⟨n.toNat, by omega⟩
    exact adds_main xs v N xs.length w h rfl (by omega) (by omega) (by omega) (by omega)
end Go.Proofs.Ytkbodhhhphodiaa
