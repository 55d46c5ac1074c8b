
import Derived.Test.YtlkfibjbfnaagaaDoorDmU
import Derived.Test.YtlkfibjbfnaagaaDoorDaN
namespace Go.Proofs.YtlkfibjbfnaagaaDoor
open Go.RowKit
/-! DomOrder's table: a root and as many nodes as the list of numbers holds, each below one ahead. -/
def oP (ps : List Int) (i : Nat) : Nat := (ps.getD i 0 % ((i + 1 : Nat) : Int)).toNat
theorem oP_le (ps : List Int) (i : Nat) : oP ps i ≤ i := by
  unfold oP
  have h1 := Int.emod_lt_of_pos (ps.getD i 0) (show (0 : Int) < ((i + 1 : Nat) : Int) by omega)
  omega
theorem oP_eq (ps : List Int) (i : Nat) : ps.getD i 0 % ((i + 1 : Nat) : Int) = (oP ps i : Nat) := by
  unfold oP
  have h1 := Int.emod_nonneg (ps.getD i 0) (show ((i + 1 : Nat) : Int) ≠ 0 by omega)
  omega
def oF (ps : List Int) : Nat → RawD
  | 0 => ⟨-1, ⟨#[97]⟩, ⟨#[]⟩, []⟩
  | i + 1 => ⟨(oP ps i : Nat), ⟨#[98]⟩, ⟨#[]⟩, []⟩
def oD (ps : List Int) : Nat → Int
  | 0 => 1
  | i + 1 => oD ps (oP ps i) + 1
termination_by i => i
decreasing_by exact Nat.lt_succ_of_le (oP_le ps i)
theorem oD_le (ps : List Int) : ∀ (n i : Nat), i ≤ n → oD ps i ≤ (i : Int) + 1
  | _, 0, _ => by rw [oD]; omega
  | 0, i + 1, h => by omega
  | n + 1, i + 1, h => by
    have h1 := oP_le ps i
    have h2 := oD_le ps n (oP ps i) (by omega)
    rw [oD]
    omega
def oT (ps : List Int) (n : Nat) : List RawD := (List.range (n + 1)).map (oF ps)
theorem oT_len (ps : List Int) (n : Nat) : (oT ps n).length = n + 1 := by simp [oT]
theorem oT_at (ps : List Int) (n i : Nat) (h : i < (oT ps n).length) : (oT ps n)[i] = oF ps i := by simp [oT]
theorem oT_succ (ps : List Int) (n : Nat) : oT ps (n + 1) = oT ps n ++ [oF ps (n + 1)] := by
  unfold oT
  rw [List.range_succ, List.map_append, List.map_singleton]
theorem oF_plain (ps : List Int) : ∀ i, ((oF ps i).tag.toList == []) = false ∧ (oF ps i).tag.size ≤ 1 ∧ (oF ps i).text.size = 0 ∧ (oF ps i).attrs = [] ∧ emptyB (oF ps i).tag = false
  | 0 => ⟨by show ((⟨#[97]⟩ : ByteArray).toList == []) = false; decide +kernel, by show (⟨#[97]⟩ : ByteArray).size ≤ 1; decide, rfl, rfl, by show emptyB ⟨#[97]⟩ = false; decide +kernel⟩
  | i + 1 => ⟨by show ((⟨#[98]⟩ : ByteArray).toList == []) = false; decide +kernel, by show (⟨#[98]⟩ : ByteArray).size ≤ 1; decide, rfl, rfl, by show emptyB ⟨#[98]⟩ = false; decide +kernel⟩
theorem oT_mem {ps : List Int} {n : Nat} {r : RawD} (h : r ∈ oT ps n) : ∃ i, i ≤ n ∧ r = oF ps i := by
  obtain ⟨i, hi, rfl⟩ := List.mem_map.1 h
  exact ⟨i, by have := List.mem_range.1 hi; omega, rfl⟩
theorem oT_attrs (ps : List Int) (n : Nat) : ∀ r ∈ oT ps n, r.attrs = [] := fun r hr => by
  obtain ⟨i, _, rfl⟩ := oT_mem hr
  exact (oF_plain ps i).2.2.2.1
theorem oT_small (ps : List Int) (n : Nat) : SmallR (oT ps n) := fun r hr => by
  obtain ⟨i, _, rfl⟩ := oT_mem hr
  have h := oF_plain ps i
  refine ⟨by have := h.2.1; omega, by rw [h.2.2.2.1]; exact Nat.zero_le _, fun a ha => ?_⟩
  rw [h.2.2.2.1] at ha
  cases ha
theorem oT_plain (ps : List Int) (n : Nat) (hn : n ≤ 60) : Plain (oT ps n) where
  few := by rw [oT_len]; omega
  pos := by rw [oT_len]; omega
  tag := fun r hr => by
    obtain ⟨i, _, rfl⟩ := oT_mem hr
    have h := oF_plain ps i
    exact ⟨h.1, by have := h.2.1; omega, h.2.2.2.1⟩
  root := fun h => by rw [oT_at]; rfl
  par := fun i h h0 => by
    rw [oT_at]
    cases i with
    | zero => exact absurd h0 (Nat.lt_irrefl _)
    | succ i => exact ⟨oP ps i, rfl, Nat.lt_succ_of_le (oP_le ps i)⟩
theorem oT_new (ps : List Int) (n : Nat) (hn : n ≤ 60) : ∃ es, newS (oT ps n) = some es := by
  have hfit : ∀ i, i < n + 1 → FitI (oF ps) (oD ps) (fun _ => true) i := fun i hi => by
    unfold FitI
    cases i with
    | zero => rw [if_pos rfl]; exact ⟨rfl, rfl⟩
    | succ i =>
      rw [if_neg (by omega)]
      have h1 := oP_le ps i
      have h2 := oD_le ps (oP ps i) (oP ps i) (Nat.le_refl _)
      exact ⟨oP ps i, rfl, by omega, rfl, by omega⟩
  have h := (new_iff (oF ps) (oD ps) (fun _ => true) (n + 1) (by omega) (by omega) (fun i _ => by rw [(oF_plain ps i).2.2.2.2]; rfl) (fun i hi _ => by
    cases i with
    | zero => rw [if_pos rfl, oD]
    | succ i =>
      rw [if_neg (by omega), oD]
      show _ = oD ps ((oP ps i : Nat) : Int).toNat + 1
      rw [Int.toNat_natCast])).2.2 hfit
  exact Option.isSome_iff_exists.1 h
end Go.Proofs.YtlkfibjbfnaagaaDoor
