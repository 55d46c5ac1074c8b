
import Derived.Test.YtlkfibjbfnaagaaDoorDaB
namespace Go.Proofs.YtlkfibjbfnaagaaDoor
open Go.RowKit
set_option maxRecDepth 100000 in
set_option maxHeartbeats 400000 in
theorem round_any (k n m : Int) (w : World) (hn : 0 < n) (hn2 : n ≤ 1000) (hm : k % n = m) :
    Calls Tryd.prog 31 #[.int .i64 k, .int .i64 n] w fun e w' => e = .returned (.int .i64 m) ∧ w = w' := by
  have hne : ¬ n = 0 := by omega
  have hne2 : (n == 0) = false := by simp [hne]
  have ht : -1000 < k.tmod n ∧ k.tmod n < 1000 := by
    have h1 := Int.tmod_lt_of_pos k hn
    have h2 := Int.tmod_lt_of_pos (-k) hn
    rw [Int.neg_tmod] at h2
    omega
  have hr : (k.tmod n + n).tmod n = m := by
    have h1 := Int.tmod_lt_of_pos k hn
    have h2 := Int.tmod_lt_of_pos (-k) hn
    rw [Int.neg_tmod] at h2
    rw [Int.tmod_eq_emod_of_nonneg (by omega), ← hm, Int.add_emod_right]
    rcases Int.le_total 0 k with h | h
    · rw [Int.tmod_eq_emod_of_nonneg h, Int.emod_emod_of_dvd k (Int.dvd_refl n)]
    · have h3 := Int.tmod_add_mul_tdiv k n
      conv => rhs; rw [← h3]
      rw [Int.add_mul_emod_self_left]
  obtain ⟨ht1, ht2⟩ := ht
  have HR := Lib.hid hr
  have HM := Lib.hid hm
  clear hr hm
  go_enter Tryd.func31, Tryd.ntmps31
  go_wp2
  go_ret
  exact ⟨ret_int HR.out, rfl⟩
end Go.Proofs.YtlkfibjbfnaagaaDoor
