
import Derived.Test.YtdnpnbikhieneaaTrH
import Derived.Test.YtdnpnbikhieneaaTkS
namespace Go.Proofs.Ytdnpnbikhieneaa
open Go.RowKit
/-! TokenNames, plain: an escape by a number's hex digits with a blank is that sign. -/
def hexc (d : Nat) : Int := if d < 10 then 48 + d else 87 + d
/-- A number's hex digits, the great ones first; of 0 none. -/
def hexN (n : Nat) : List Int := if _h : n = 0 then [] else hexN (n / 16) ++ [hexc (n % 16)]
termination_by n
decreasing_by omega
theorem hexc_ok (d : Nat) (h : d < 16) : sHex (hexc d) = (d : Int) ∧ sHexOk (hexc d) = true := by
  unfold hexc sHex sHexOk
  split
  · rw [if_pos (by omega)]; exact ⟨by omega, by simp; omega⟩
  · rw [if_neg (by omega), if_pos (by omega)]; exact ⟨by omega, by simp; omega⟩
theorem hexN_ok (n : Nat) : (hexN n).foldl (fun a x => a * 16 + sHex x) 0 = (n : Int) ∧ (∀ x ∈ hexN n, sHexOk x = true) := by
  induction n using Nat.strongRecOn with
  | _ n ih =>
    rw [hexN]
    by_cases h : n = 0
    · rw [dif_pos h]
      exact ⟨by subst h; rfl, by intro x hx; simp at hx⟩
    · rw [dif_neg h]
      obtain ⟨h1, h2⟩ := ih (n / 16) (by omega)
      have hc := hexc_ok (n % 16) (by omega)
      refine ⟨?_, ?_⟩
      · rw [List.foldl_append, h1]
        show (((n / 16 : Nat) : Int) * 16 + sHex (hexc (n % 16))) = (n : Int)
        rw [hc.1]
        omega
      · intro x hx
        rw [List.mem_append] at hx
        rcases hx with hx | hx
        · exact h2 x hx
        · simp at hx; subst hx; exact hc.2
theorem hexN_len : ∀ (k n : Nat), n < 16 ^ k → (hexN n).length ≤ k
  | 0, n, h => by
    obtain rfl : n = 0 := by simpa using h
    rw [hexN, dif_pos rfl]; simp
  | k + 1, n, h => by
    rw [hexN]
    by_cases h0 : n = 0
    · rw [dif_pos h0]; simp
    · rw [dif_neg h0, List.length_append, List.length_singleton]
      have := hexN_len k (n / 16) (by rw [Nat.pow_succ] at h; omega)
      omega
theorem hexN_ne {n : Nat} (h : n ≠ 0) : ∃ a l, hexN n = a :: l := by
  have e : hexN n = hexN (n / 16) ++ [hexc (n % 16)] := by rw [hexN, dif_neg h]
  cases hl : hexN n with
  | nil => rw [hl] at e; simp at e
  | cons a l => exact ⟨a, l, rfl⟩
theorem hx_run : ∀ (l : List Int) (k : Nat) (v : Int) (c : Nat) (t : List Int), (∀ x ∈ l, sHexOk x = true) → l.length ≤ k → sHexOk (ah t 0) = false →
    hx k v c (l ++ t) = (l.foldl (fun a x => a * 16 + sHex x) v, c + l.length, t)
  | [], 0, v, c, t, _, _, _ => rfl
  | [], k + 1, v, c, t, _, _, h => by
    rw [List.nil_append, hx, if_neg (by rw [h]; decide)]; rfl
  | a :: l, 0, v, c, t, _, h, _ => by simp at h
  | a :: l, k + 1, v, c, t, hl, h, ht => by
    have ha : sHexOk (ah (a :: l ++ t) 0) = true := hl a (by simp)
    have e : dp 1 (a :: l ++ t) = l ++ t := rfl
    rw [hx, if_pos ha, e, hx_run l k _ _ t (fun x hx => hl x (by simp [hx])) (by simpa using h) ht]
    have e2 : ah (a :: l ++ t) 0 = a := rfl
    rw [e2, List.foldl_cons, List.length_cons]
    congr 2
    omega
/-- A sign's number may be escaped. -/
def mayEsc (n : Nat) : Prop := 1 ≤ n ∧ n ≤ 1114111 ∧ ¬ (55296 ≤ n ∧ n ≤ 57343)
theorem esc_run {n : Nat} (h : mayEsc n) (t : List Int) : escT (hexN n ++ 32 :: t) = ((n : Int), t) := by
  obtain ⟨h1, h2, h3⟩ := h
  obtain ⟨a, l, hl⟩ := hexN_ne (n := n) (by omega)
  have hk := hexN_ok n
  have hn := hx_run (hexN n) 6 0 0 (32 :: t) hk.2 (hexN_len 6 n (by omega)) (by show sHexOk 32 = false; decide +kernel)
  rw [hk.1] at hn
  have hp : 0 < (hexN n).length := by rw [hl]; simp
  unfold escT
  rw [if_neg (by rw [hl]; simp), hn]
  rw [if_neg (by show ¬ (0 + (hexN n).length = 0); omega)]
  have e1 : sWhite (ah ((32 : Int) :: t) 0) = true := by show sWhite 32 = true; decide +kernel
  show (meantS (n : Int), if sWhite (ah (32 :: t) 0) then dp 1 (32 :: t) else 32 :: t) = _
  rw [if_pos e1]
  have e2 : meantS (n : Int) = (n : Int) := by unfold meantS; rw [if_neg (by omega)]
  rw [e2]
  rfl
def escL (l : List Nat) : List Int := l.flatMap fun n => 92 :: (hexN n ++ [32])
theorem escL_cons (n : Nat) (l : List Nat) (t : List Int) : escL (n :: l) ++ t = 92 :: (hexN n ++ 32 :: (escL l ++ t)) := by
  unfold escL
  rw [List.flatMap_cons]
  simp
theorem esc_one {n : Nat} (h : mayEsc n) (t : List Int) : esc (92 :: (hexN n ++ 32 :: t)) 0 = true := by
  obtain ⟨a, l, hl⟩ := hexN_ne (n := n) (by have := h.1; omega)
  have ha := (hexN_ok n).2 a (by rw [hl]; simp)
  have : a ≠ 10 := fun e => by subst e; exact absurd ha (by decide +kernel)
  unfold esc
  rw [hl]
  simp [this]
/-- A name of escapes is their signs. -/
theorem nm_run : ∀ (l : List Nat) (t : List Int), (∀ n ∈ l, mayEsc n) → sName (ah t 0) = false → esc t 0 = false → nm (escL l ++ t) = (l.map (fun n : Nat => (n : Int)), t)
  | [], t, _, h1, h2 => nm_else h1 h2
  | n :: l, t, h, h1, h2 => by
    have hn := h n (by simp)
    have c1 : sName (ah (92 :: (hexN n ++ 32 :: (escL l ++ t))) 0) = false := by show sName 92 = false; decide +kernel
    have e : dp 1 (92 :: (hexN n ++ 32 :: (escL l ++ t))) = hexN n ++ 32 :: (escL l ++ t) := rfl
    rw [escL_cons, nm_esc c1 (esc_one hn _), e, esc_run hn]
    have := nm_run l t (fun x hx => h x (by simp [hx])) h1 h2
    dsimp only
    rw [this]
    rfl
/-- a, and escapes. -/
theorem nm_a (l : List Nat) (t : List Int) (h : ∀ n ∈ l, mayEsc n) (h1 : sName (ah t 0) = false) (h2 : esc t 0 = false) :
    nm (97 :: (escL l ++ t)) = (97 :: l.map (fun n : Nat => (n : Int)), t) := by
  have c : sName (ah (97 :: (escL l ++ t)) 0) = true := by show sName 97 = true; decide +kernel
  have e : dp 1 (97 :: (escL l ++ t)) = escL l ++ t := rfl
  rw [nm_name c, e, nm_run l t h h1 h2]
  rfl
end Go.Proofs.Ytdnpnbikhieneaa
