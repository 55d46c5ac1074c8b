
import Derived.Test.YtkbodhhhphodiaaSyDy
namespace Go.Proofs.Ytkbodhhhphodiaa
open Go.RowKit
/-! SystemAdds: the style that the law builds, and its text. -/
def wN (xs : List Int) : Nat → Int
  | 0 => 0
  | i + 1 => wN xs i + 1 + nth xs i % 1000
def wL (xs : List Int) : Nat → List Int
  | 0 => []
  | i + 1 => wN xs (i + 1) :: wL xs i
def sL : Nat → List ByteArray
  | 0 => []
  | i + 1 => letB 97 i :: sL i
theorem wL_len (xs : List Int) : ∀ k, (wL xs k).length = k
  | 0 => rfl
  | k + 1 => by rw [wL, List.length_cons, wL_len xs k]
theorem sL_len : ∀ k, (sL k).length = k
  | 0 => rfl
  | k + 1 => by rw [sL, List.length_cons, sL_len k]
theorem wN_step (xs : List Int) (i : Nat) : wN xs i + 1 ≤ wN xs (i + 1) ∧ wN xs (i + 1) ≤ wN xs i + 1000 := by
  rw [wN]
  have := Int.emod_nonneg (nth xs i) (show (1000 : Int) ≠ 0 by decide)
  have := Int.emod_lt_of_pos (nth xs i) (show (0 : Int) < 1000 by decide)
  omega
theorem wN_bound (xs : List Int) : ∀ i : Nat, (i : Int) ≤ wN xs i ∧ wN xs i ≤ (i : Int) * 1000
  | 0 => by simp [wN]
  | i + 1 => by
    have h1 := wN_bound xs i
    have h2 := wN_step xs i
    omega
theorem wL_at (xs : List Int) : ∀ (k j : Nat), j < k → nth (wL xs k) j = wN xs (k - j)
  | 0, j, h => absurd h (by omega)
  | k + 1, 0, _ => rfl
  | k + 1, j + 1, h => by
    have := wL_at xs k j (by omega)
    rw [show k + 1 - (j + 1) = k - j by omega, ← this]
    rfl
theorem fall_wL (xs : List Int) (k : Nat) : fallB (wL xs k) = true := by
  refine (fall_of (l := wL xs k) fun j hj => ?_).symm
  rw [wL_len] at hj
  unfold okAt
  refine decide_eq_true ⟨?_, fun h0 => ?_⟩
  · rw [wL_at xs k j hj]
    have := (wN_bound xs (k - j)).1
    omega
  · rw [wL_at xs k j hj, wL_at xs k (j - 1) (by omega), show k - (j - 1) = (k - j) + 1 by omega]
    have := (wN_step xs (k - j)).1
    omega
abbrev adsD (xs : List Int) (k : Nat) : DefD := ⟨⟨#[]⟩, adT, 1, sL k, wL xs k, ⟨#[]⟩, ⟨#[]⟩, ⟨#[]⟩, ⟨#[]⟩, true, [], 0, ⟨#[]⟩, ⟨#[]⟩, ⟨#[]⟩, 0⟩
theorem short_sL : ∀ k, shortB (sL k) = true
  | 0 => rfl
  | k + 1 => by
    have h := short_sL k
    unfold shortB at h ⊢
    rw [sL, List.all_cons, h]
    rfl
theorem syms_ad2 (xs : List Int) (k : Nat) (h : 1 ≤ k) (h2 : k ≤ 64) : symsB (adsD xs k) = true := by
  have q : (adT.toList == [97, 100, 100, 105, 116, 105, 118, 101]) = true := by decide +kernel
  have t0 := sys_one q (b := [99, 121, 99, 108, 105, 99]) (by decide)
  have t1 := sys_one q (b := [102, 105, 120, 101, 100]) (by decide)
  have t2 := sys_one q (b := [115, 121, 109, 98, 111, 108, 105, 99]) (by decide)
  have t3 := sys_one q (b := [97, 108, 112, 104, 97, 98, 101, 116, 105, 99]) (by decide)
  have t4 := sys_one q (b := [110, 117, 109, 101, 114, 105, 99]) (by decide)
  unfold symsB isB
  rw [if_neg (by show ¬ 64 < (sL k).length; rw [sL_len]; omega)]
  simp only [t0, t1, t2, t3, t4, q, Bool.or_false, if_true, Bool.false_eq_true, if_false, sL_len, wL_len, fall_wL]
  simp
  exact h
theorem may_ads (xs : List Int) (k : Nat) (h : 1 ≤ k) (h2 : k ≤ 64) : mayB (adsD xs k) = true := by
  unfold mayB textsB
  rw [syms_ad2 xs k h h2]
  show (true && (shortB (sL k) && _) && _ && _ && _) = true
  rw [short_sL]
  rfl
theorem row_ads (xs : List Int) (k N : Nat) (h : 1 ≤ k) (h2 : k ≤ 64) (hN1 : 1 ≤ N) (hN : N ≤ 2147483648) : rowD (adsD xs k) (N : Int) = endD (sumD [] N 0 (wL xs k)) := by
  have q : (adT.toList == [97, 100, 100, 105, 116, 105, 118, 101]) = true := by decide +kernel
  have t0 := sys_one q (b := [99, 121, 99, 108, 105, 99]) (by decide)
  have t1 := sys_one q (b := [102, 105, 120, 101, 100]) (by decide)
  have t2 := sys_one q (b := [115, 121, 109, 98, 111, 108, 105, 99]) (by decide)
  have t3 := sys_one q (b := [97, 108, 112, 104, 97, 98, 101, 116, 105, 99]) (by decide)
  have t4 := sys_one q (b := [110, 117, 109, 101, 114, 105, 99]) (by decide)
  have hn : nearB (N : Int) = true := decide_eq_true ⟨by omega, by omega⟩
  unfold rowD
  rw [if_pos ⟨may_ads xs k h h2, hn⟩]
  unfold placesD isB
  rw [if_neg (by rw [t0]; decide), if_neg (by rw [t1]; decide), if_neg (by omega), if_neg (by rw [t2]; decide), if_neg (by rw [t3]; decide), if_neg (by rw [t4]; decide), if_pos q, Int.toNat_natCast]
  show sumsD N (wL xs k) = _
  unfold sumsD
  rw [if_neg (by omega)]
/-- The text of a row of places. -/
def txt (syms : List ByteArray) (l : List Int) : ByteArray := ⟨(catD syms l).toArray⟩
theorem txt_nil (syms : List ByteArray) : txt syms [] = ⟨#[]⟩ := rfl
theorem txt_snoc (syms : List ByteArray) (l : List Int) (x : Int) : txt syms (l ++ [x]) = txt syms l ++ symAt syms x := by
  have e : (txt syms l ++ symAt syms x).data = (txt syms l).data ++ (symAt syms x).data := by simp
  have e2 : (txt syms (l ++ [x])).data = (txt syms l ++ symAt syms x).data := by
    rw [e]
    unfold txt catD
    rw [List.flatMap_append]
    apply Array.ext'
    simp
  cases h1 : txt syms (l ++ [x])
  cases h2 : txt syms l ++ symAt syms x
  rw [h1, h2] at e2
  exact congrArg _ e2
theorem sL_one : ∀ (k j : Nat), j < k → (symAt (sL k) (j : Int)).size = 1
  | 0, _, h => absurd h (by omega)
  | k + 1, 0, _ => rfl
  | k + 1, j + 1, h => by
    have := sL_one k j (by omega)
    unfold symAt at this ⊢
    rw [Int.toNat_natCast] at this ⊢
    exact this
theorem txt_size (k : Nat) : ∀ (l : List Int), (∀ x ∈ l, 0 ≤ x ∧ x < (k : Int)) → (txt (sL k) l).size = l.length
  | [], _ => rfl
  | x :: l, h => by
    have ih := txt_size k l (fun y hy => h y (by simp [hy]))
    obtain ⟨h0, h1⟩ := h x (by simp)
    obtain ⟨j, rfl⟩ : ∃ j : Nat, x = (j : Int) := ⟨x.toNat, by omega⟩
    have h2 := sL_one k j (by omega)
    have e1 : (txt (sL k) ((j : Int) :: l)).size = (symAt (sL k) (j : Int)).size + (txt (sL k) l).size := by
      show (catD (sL k) ((j : Int) :: l)).toArray.size = (symAt (sL k) (j : Int)).data.size + (catD (sL k) l).toArray.size
      unfold catD
      rw [List.flatMap_cons]
      simp
    rw [e1, ih, h2, List.length_cons]
    omega
end Go.Proofs.Ytkbodhhhphodiaa
