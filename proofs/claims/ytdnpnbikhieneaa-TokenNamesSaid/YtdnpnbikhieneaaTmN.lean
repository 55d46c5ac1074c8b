
import Derived.Test.YtdnpnbikhieneaaTmD0
import Derived.Test.YtdnpnbikhieneaaTmD1
import Derived.Test.YtdnpnbikhieneaaTmD2
import Derived.Test.YtdnpnbikhieneaaTmD3
namespace Go.Proofs.Ytdnpnbikhieneaa
open Go.RowKit
set_option maxRecDepth 100000 in
set_option maxHeartbeats 3200000 in
theorem names_many (w : World) (xs : List Int) (v : Value) (kind : Int) (hv : Rd .i32 w v xs) (_hm : xs.length ≤ maxLen) (hl : (30 : Int) < (xs.length : Int)) :
    Calls Try.prog 4 #[v, .int .i64 kind] w fun e w' => e = .returned (.bool true) ∧ Below w.heap.size w w' := by
  obtain ⟨a, c, rfl, hle, hcell⟩ := hv
  clear hcell
  unfold maxLen at _hm
  have h1 : ¬ (xs.length : Int) < 1 := by omega
  go_enter Try.func4, Try.ntmps4
  go_wp2_with (go_at_call 11; (with_reducible refine (awake_any _).mono ?_); rintro e w2 ⟨rfl, hb2⟩)
  go_ret
  exact ⟨rfl, hb2⟩
set_option maxRecDepth 100000 in
set_option maxHeartbeats 3200000 in
theorem names_none (w : World) (v : Value) (kind : Int) (hv : Rd .i32 w v []) :
    Calls Try.prog 4 #[v, .int .i64 kind] w fun e w' => e = .returned (.bool true) ∧ Below w.heap.size w w' := by
  obtain ⟨a, c, rfl, hle, hcell⟩ := hv
  clear hcell
  go_enter Try.func4, Try.ntmps4
  go_wp2_with (go_at_call 11; (with_reducible refine (awake_any _).mono ?_); rintro e w2 ⟨rfl, hb2⟩)
  go_ret
  exact ⟨rfl, hb2⟩
theorem TokenNames_any (w : World) (xs : List Int) (v : Value) (hv : Rd .i32 w v xs) (_hwf : ∀ x ∈ xs, (Lit.int .i32 x).wf = true) (hm : xs.length ≤ maxLen) (kind : Int) (_hk : (Lit.int .i64 kind).wf = true) :
    Calls Try.prog 4 #[v, .int .i64 kind] w fun e w' => e = .returned (.bool true) ∧ Below w.heap.size w w' := by
  by_cases h0 : xs.length = 0
  · obtain rfl : xs = [] := List.eq_nil_of_length_eq_zero h0
    exact names_none w v kind hv
  · by_cases h : xs.length ≤ 30
    · have h4 : kind % 4 = 0 ∨ kind % 4 = 1 ∨ kind % 4 = 2 ∨ kind % 4 = 3 := by omega
      rcases h4 with hk | hk | hk | hk
      · exact names_0 w xs v kind hv h (by omega) hk
      · exact names_1 w xs v kind hv h (by omega) hk
      · exact names_2 w xs v kind hv h (by omega) hk
      · exact names_3 w xs v kind hv h (by omega) hk
    · exact names_many w xs v kind hv hm (by omega)
end Go.Proofs.Ytdnpnbikhieneaa
