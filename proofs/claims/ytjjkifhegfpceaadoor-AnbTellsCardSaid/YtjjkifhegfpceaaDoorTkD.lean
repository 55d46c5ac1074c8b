
import Derived.Test.YtjjkifhegfpceaaDoorTkP
import Derived.Laws.BitsAllLaws
import Derived.Laws.BitsLemmas
namespace Go.Proofs.YtjjkifhegfpceaaDoor
open Go.RowKit

/-- How many signs of n are still to come. -/
def left (g n : Nat) (w : World) : Nat := n - (intOf ((w.cell? ⟨g, 1, none⟩).getD undef)).toNat
theorem Now.left {T : TypeId} {g : Nat} {v : Value} {xs r : List Int} {w0 w : World} (h : Now T g v xs r w0 w) : left g xs.length w = r.length := by
  have := h.st.rlen
  unfold Go.Proofs.YtjjkifhegfpceaaDoor.left
  rw [h.st.cell1]
  simp [intOf]
  omega

theorem or16 (x d : Int) (hx : 0 ≤ x) (hx2 : x ≤ 16777216) (hd : 0 ≤ d) (hd2 : d < 16) : bits .or .i64 (x * 16) d = x * 16 + d := by
  obtain ⟨a, rfl⟩ : ∃ a : Nat, x = a := ⟨x.toNat, by omega⟩
  obtain ⟨b, rfl⟩ : ∃ b : Nat, d = b := ⟨d.toNat, by omega⟩
  have e1 : (BitVec.ofInt 64 ((a : Int) * 16)).toNat = a * 16 := by
    rw [show ((a : Int) * 16) = ((a * 16 : Nat) : Int) by omega, BitVec.ofInt_natCast, BitVec.toNat_ofNat]
    exact Nat.mod_eq_of_lt (by omega)
  have e2 : (BitVec.ofInt 64 (b : Int)).toNat = b := by
    rw [BitVec.ofInt_natCast, BitVec.toNat_ofNat]
    exact Nat.mod_eq_of_lt (by omega)
  have e3 : a * 16 ||| b = a * 16 + b := by
    have := Nat.shiftLeft_add_eq_or_of_lt (show b < 2 ^ 4 by omega) a
    rw [Nat.shiftLeft_eq] at this
    exact this.symm
  show IntKind.i64.wrap ((BitVec.ofInt 64 ((a : Int) * 16) ||| BitVec.ofInt 64 (b : Int)).toNat : Int) = _
  rw [BitVec.toNat_or, e1, e2, e3, IntKind.wrap_i64]
  omega

theorem sHex_bd (x : Int) : 0 ≤ sHex x ∧ sHex x < 16 := by
  unfold sHex
  split
  · omega
  · split
    · omega
    · split <;> omega

section
variable {g : Nat} {v : Value} {xs r : List Int} {w0 w : World}
theorem wh_white {r : List Int} (h : sWhite (ah r 0) = true) : wh r = wh (dp 1 r) := by
  cases r with
  | nil => rfl
  | cons a t => simp at h; simp [wh, dp, h]
theorem wh_else {r : List Int} (h : sWhite (ah r 0) = false) : wh r = r := by
  cases r with
  | nil => rfl
  | cons a t => simp at h; simp [wh, h]
theorem wh_suf (r : List Int) : wh r <:+ r := List.dropWhile_suffix _
theorem wh_len (r : List Int) : (wh r).length ≤ r.length := (wh_suf r).length_le

end
end Go.Proofs.YtjjkifhegfpceaaDoor
namespace Go.Proofs.YtjjkifhegfpceaaDoor
open Go.RowKit

/-- Behind a comment's end. -/
def cmEnd : List Int → List Int
  | [] => []
  | a :: t => if pre [42, 47] (a :: t) then dp 2 (a :: t) else cmEnd t
def cmF : Nat → List Int → List Int
  | 0, r => r
  | f + 1, r => if pre [47, 42] r then cmF f (cmEnd (dp 2 r)) else r
/-- Behind all comments. -/
def cm (r : List Int) : List Int := cmF r.length r

theorem cmEnd_suf : ∀ r : List Int, cmEnd r <:+ r
  | [] => List.suffix_refl _
  | a :: t => by
    unfold cmEnd
    split
    · exact dp_suf _ _
    · exact (cmEnd_suf t).trans (List.suffix_cons a t)
theorem cmEnd_len (r : List Int) : (cmEnd r).length ≤ r.length := (cmEnd_suf r).length_le
theorem cmEnd_yes {r : List Int} (h : pre [42, 47] r = true) : cmEnd r = dp 2 r := by
  cases r with
  | nil => rfl
  | cons a t => unfold cmEnd; rw [if_pos h]
theorem cmEnd_no {r : List Int} (h : pre [42, 47] r = false) : cmEnd r = cmEnd (dp 1 r) := by
  cases r with
  | nil => rfl
  | cons a t => conv => lhs; unfold cmEnd
                rw [if_neg (by rw [h]; simp)]; rfl
theorem cmF_fuel : ∀ (f g : Nat) (r : List Int), r.length ≤ f → r.length ≤ g → cmF f r = cmF g r
  | 0, 0, _, _, _ => rfl
  | 0, g + 1, r, h, _ => by
    obtain rfl : r = [] := List.eq_nil_of_length_eq_zero (by omega)
    rfl
  | f + 1, 0, r, _, h => by
    obtain rfl : r = [] := List.eq_nil_of_length_eq_zero (by omega)
    rfl
  | f + 1, g + 1, r, h1, h2 => by
    unfold cmF
    by_cases c : pre [47, 42] r = true
    · have := pre_len c
      have hl := cmEnd_len (dp 2 r)
      rw [dp_len] at hl
      simp only [List.length_cons, List.length_nil] at this
      rw [if_pos c, if_pos c, cmF_fuel f g _ (by omega) (by omega)]
    · rw [if_neg c, if_neg c]
theorem cm_yes {r : List Int} (h : pre [47, 42] r = true) : cm r = cm (cmEnd (dp 2 r)) := by
  have := pre_len h
  have hl := cmEnd_len (dp 2 r)
  rw [dp_len] at hl
  simp only [List.length_cons, List.length_nil] at this
  obtain ⟨n, hn⟩ : ∃ n, r.length = n + 1 := ⟨r.length - 1, by omega⟩
  unfold cm
  rw [hn]
  conv => lhs; unfold cmF
  rw [if_pos h]
  exact cmF_fuel _ _ _ (by omega) (Nat.le_refl _)
theorem cm_no {r : List Int} (h : pre [47, 42] r = false) : cm r = r := by
  unfold cm
  cases r with
  | nil => rfl
  | cons a t =>
    show cmF (t.length + 1) _ = _
    unfold cmF
    rw [if_neg (by rw [h]; simp)]
theorem cmF_suf : ∀ (f : Nat) (r : List Int), cmF f r <:+ r
  | 0, r => List.suffix_refl r
  | f + 1, r => by
    unfold cmF
    split
    · exact (cmF_suf f _).trans ((cmEnd_suf _).trans (dp_suf _ _))
    · exact List.suffix_refl r
theorem cm_suf (r : List Int) : cm r <:+ r := cmF_suf _ _
theorem cm_len (r : List Int) : (cm r).length ≤ r.length := (cm_suf r).length_le

section
variable {g : Nat} {v : Value} {xs r : List Int} {w0 w : World}
/-- Hex digits, from a place on. -/
theorem hx_yes {k c : Nat} {n : Int} {r : List Int} (h : sHexOk (ah r 0) = true) : hx (k + 1) n c r = hx k (n * 16 + sHex (ah r 0)) (c + 1) (dp 1 r) := by
  conv => lhs; unfold hx
  rw [if_pos h]
theorem hx_no {k c : Nat} {n : Int} {r : List Int} (h : sHexOk (ah r 0) = false) : hx k n c r = (n, c, r) := by
  cases k with
  | zero => rfl
  | succ k => unfold hx; rw [if_neg (by rw [h]; simp)]

/-- What so many hex digits may tell. -/
def HxB (c : Nat) (n : Int) : Prop := 0 ≤ n ∧ n < 16 ^ c

theorem hx_bd : ∀ (k c : Nat) (n : Int) (r : List Int), 0 ≤ n → n < 16 ^ c → 0 ≤ (hx k n c r).1 ∧ (hx k n c r).1 < 16 ^ (c + k)
  | 0, c, n, r, h0, h1 => ⟨h0, h1⟩
  | k + 1, c, n, r, h0, h1 => by
    unfold hx
    have hd := sHex_bd (ah r 0)
    split
    · have := hx_bd k (c + 1) (n * 16 + sHex (ah r 0)) (dp 1 r) (by omega) (by rw [Int.pow_succ]; omega)
      rw [show c + (k + 1) = c + 1 + k by omega]
      exact this
    · refine ⟨h0, ?_⟩
      have e : (16 : Int) ^ (c + (k + 1)) = 16 ^ c * 16 ^ (k + 1) := Int.pow_add ..
      have e2 : (1 : Int) ≤ 16 ^ (k + 1) := Int.pow_pos (by decide)
      have e3 : (16 : Int) ^ c * 1 ≤ 16 ^ c * 16 ^ (k + 1) := Int.mul_le_mul_of_nonneg_left e2 (by omega)
      rw [e]
      show n < _
      omega
theorem hx6_bd (r : List Int) : 0 ≤ (hx 6 0 0 r).1 ∧ (hx 6 0 0 r).1 ≤ 16777215 := by
  have := hx_bd 6 0 0 r (by omega) (by decide)
  omega

theorem hx_cnt : ∀ (k c : Nat) (n : Int) (r : List Int), c ≤ (hx k n c r).2.1 ∧ (hx k n c r).2.1 ≤ c + k
  | 0, c, n, r => ⟨Nat.le_refl _, Nat.le_refl _⟩
  | k + 1, c, n, r => by
    unfold hx
    split
    · have := hx_cnt k (c + 1) (n * 16 + sHex (ah r 0)) (dp 1 r)
      omega
    · dsimp only
      omega
end
end Go.Proofs.YtjjkifhegfpceaaDoor
