
import Derived.Test.YtdnpnbikhieneaaTkX
namespace Go.Proofs.Ytdnpnbikhieneaa
open Go.RowKit
/-- A number's digits. -/
def decD (u : Nat) : List Int := if u < 10 then [48 + (u : Int)] else decD (u / 10) ++ [48 + ((u % 10 : Nat) : Int)]
theorem decD_small {u : Nat} (h : u < 10) : decD u = [48 + (u : Int)] := by unfold decD; rw [if_pos h]
theorem decD_step {u : Nat} (h : ¬ u < 10) : decD u = decD (u / 10) ++ [48 + ((u % 10 : Nat) : Int)] := by
  conv => lhs; unfold decD
  rw [if_neg h]
def preD (u : Nat) : List Int := if u = 0 then [] else decD u
theorem preD_step {u : Nat} (h : 0 < u) : preD u = preD (u / 10) ++ [48 + ((u % 10 : Nat) : Int)] := by
  unfold preD
  rw [if_neg (by omega)]
  by_cases c : u < 10
  · rw [decD_small c, if_pos (by omega), Nat.mod_eq_of_lt c]; rfl
  · rw [decD_step c, if_neg (by omega)]
theorem decD_len : ∀ (k u : Nat), u < 10 ^ (k + 1) → (decD u).length ≤ k + 1
  | 0, u, h => by rw [decD_small (by simpa using h)]; simp
  | k + 1, u, h => by
    by_cases c : u < 10
    · rw [decD_small c]; simp
    · rw [decD_step c, List.length_append]
      have := decD_len k (u / 10) (by rw [Nat.div_lt_iff_lt_mul (by decide)]; rw [Nat.pow_succ] at h; exact h)
      simp; omega
theorem decD_ok : ∀ (n u : Nat), u ≤ n → ∀ x ∈ decD u, 48 ≤ x ∧ x ≤ 57 := by
  intro n
  induction n with
  | zero => intro u h x hx; rw [decD_small (by omega)] at hx; simp at hx; omega
  | succ n ih =>
    intro u h x hx
    by_cases c : u < 10
    · rw [decD_small c] at hx; simp at hx; omega
    · rw [decD_step c, List.mem_append] at hx
      rcases hx with hx | hx
      · exact ih _ (by omega) x hx
      · simp at hx; omega
theorem decD_all (u : Nat) : ∀ x ∈ decD u, 48 ≤ x ∧ x ≤ 57 := decD_ok u u (Nat.le_refl _)
theorem decD_pos (u : Nat) : 0 < (decD u).length := by
  by_cases c : u < 10
  · rw [decD_small c]; simp
  · rw [decD_step c, List.length_append]; simp
theorem digV_snoc (l : List Int) (x : Int) : digV (l ++ [x]) = min (digV l * 10 + (x - 48)) 2147483648 := by
  unfold digV; rw [List.foldl_append]; rfl
theorem decD_val : ∀ (n u : Nat), u ≤ n → digV (decD u) = min (u : Int) 2147483648 := by
  intro n
  induction n with
  | zero => intro u h; obtain rfl : u = 0 := by omega
            rw [decD_small (by decide)]; rfl
  | succ n ih =>
    intro u h
    by_cases c : u < 10
    · rw [decD_small c]; simp [digV]; omega
    · rw [decD_step c, digV_snoc, ih _ (by omega)]
      have := Nat.div_add_mod u 10
      omega
/-- Of a loop over digits: what is still to come, and what stands there. -/
def DecInv (u0 u : Nat) (d : List Int) : Prop := (d = [] ∧ u = u0 ∨ d ≠ [] ∧ preD u ++ d = decD u0) ∧ u ≤ u0 ∧ d.length ≤ 20
theorem DecInv.round {u0 u : Nat} {d : List Int} (h : DecInv u0 u d) (hu : u0 < 10 ^ 20) (hg : 0 < u ∨ d = []) : DecInv u0 (u / 10) ((48 + ((u % 10 : Nat) : Int)) :: d) := by
  obtain ⟨h1, h2, h3⟩ := h
  have key : preD (u / 10) ++ (48 + ((u % 10 : Nat) : Int)) :: d = decD u0 := by
    rcases h1 with ⟨rfl, rfl⟩ | ⟨hd, he⟩
    · by_cases c : u = 0
      · subst c; rw [decD_small (by decide)]; rfl
      · have := preD_step (u := u) (by omega)
        rw [← this]; unfold preD; rw [if_neg c]
    · have hp : 0 < u := by rcases hg with hg | hg; exact hg; exact absurd hg hd
      rw [← he, preD_step hp, List.append_assoc]; rfl
  refine ⟨.inr ⟨by simp, key⟩, by omega, ?_⟩
  have hl := decD_len 19 u0 hu
  have := congrArg List.length key
  rw [List.length_append] at this
  omega
theorem DecInv.done {u0 u : Nat} {d : List Int} (h : DecInv u0 u d) (h1 : u = 0) (h2 : d ≠ []) : d = decD u0 := by
  obtain ⟨h1', _, _⟩ := h
  rcases h1' with ⟨e, _⟩ | ⟨_, he⟩
  · exact absurd e h2
  · rw [← he, h1]; rfl
def emptyV : Value → Nat
  | .string s => if s.size = 0 then 1 else 0
  | _ => 0
/-- A number's text. -/
def decT (n : Int) : List Int := (if n < 0 then [45] else []) ++ decD n.natAbs
theorem strOfNums_append (a b : List Int) : strOfNums (a ++ b) = strOfNums a ++ strOfNums b := by
  apply ByteArray.ext
  apply Array.ext'
  rw [strOfNums_data, ByteArray.data_append, Array.toList_append, strOfNums_data, strOfNums_data, List.map_append]
-- the walk (gendec.py)
end Go.Proofs.Ytdnpnbikhieneaa
