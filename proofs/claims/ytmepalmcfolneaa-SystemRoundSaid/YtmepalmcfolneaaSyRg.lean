
import Derived.Test.YtmepalmcfolneaaSyRp
import Derived.Deep.CutBlock
import Derived.Deep.DeepMust
import Derived.Deep.AppendLies
import Derived.Deep.RegionLaw
import Derived.Deep.DeepCutAuto
namespace Go.Proofs.Ytmepalmcfolneaa
open Go.RowKit
theorem bx_grown2 {w w' w3 : World} {b : Nat} {cs : Array Value} {row : Option Nat} (hg : w'.grownBy w3 row) (h : Bx w b cs) (he : w'.heap = w.heap) (hne : row ≠ some b) : Bx w3 b cs := by
  have h2 : Bx w' b cs := by
    unfold Bx at h ⊢
    rw [he]
    exact h
  exact h2.grown hg hne
set_option maxRecDepth 100000 in
set_option maxHeartbeats 400000 in
theorem sy_round (k n m : Int) (w : World) (hn : 0 < n) (hn2 : n ≤ 1000) (hm : k % n = m) :
    Calls Try.prog 7 #[.int .i64 k, .int .i64 n] w fun e w' => e = .returned (.int .i64 m) ∧ w = w' := by
  have hne : ¬ n = 0 := by omega
  have hne2 : (n == 0) = false := by simp [hne]
  have ht : -1000 < k.tmod n ∧ k.tmod n < 1000 := by
    have h1 := Int.tmod_lt_of_pos k hn
    have h2 := Int.tmod_lt_of_pos (-k) hn
    rw [Int.neg_tmod] at h2
    omega
  have hr : (k.tmod n + n).tmod n = m := by
    have h1 := Int.tmod_lt_of_pos k hn
    have h2 := Int.tmod_lt_of_pos (-k) hn
    rw [Int.neg_tmod] at h2
    rw [Int.tmod_eq_emod_of_nonneg (by omega), ← hm, Int.add_emod_right]
    rcases Int.le_total 0 k with h | h
    · rw [Int.tmod_eq_emod_of_nonneg h, Int.emod_emod_of_dvd k (Int.dvd_refl n)]
    · have h3 := Int.tmod_add_mul_tdiv k n
      conv => rhs; rw [← h3]
      rw [Int.add_mul_emod_self_left]
  obtain ⟨ht1, ht2⟩ := ht
  have HR := Lib.hid hr
  have HM := Lib.hid hm
  clear hr hm
  go_enter Try.func7, Try.ntmps7
  go_wp2
  go_ret
  exact ⟨ret_int HR.out, rfl⟩
theorem sys_cell (w : World) (i : Nat) (hi : i < 7) : (w.alloc (.cells #[.string cyT, .string nuT, .string fiT, .string alT, .string syT, .string adT, .string exT] 9)).cell? ⟨w.heap.size, i, none⟩ = some (.string (sysAt i)) := by
  unfold World.cell?
  rw [heap_alloc_self]
  match i, hi with
  | 0, _ => rfl
  | 1, _ => rfl
  | 2, _ => rfl
  | 3, _ => rfl
  | 4, _ => rfl
  | 5, _ => rfl
  | 6, _ => rfl
end Go.Proofs.Ytmepalmcfolneaa
