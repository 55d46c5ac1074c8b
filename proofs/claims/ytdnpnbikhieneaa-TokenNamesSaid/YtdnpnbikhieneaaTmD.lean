
import Derived.Test.YtdnpnbikhieneaaTmC
import Derived.Test.YtdnpnbikhieneaaTkTk
import Derived.Test.YtdnpnbikhieneaaTuA
import Derived.StillTailTactics
import Derived.Deep.DeepCutAuto
import Derived.Deep.RegionLaw
import Derived.Test.YtdnpnbikhieneaaRnd
namespace Go.Proofs.Ytdnpnbikhieneaa
open Go.RowKit
theorem w64_div {m r : Nat} (h : m ≤ r) (hr : r ≤ 1114111) : wrap64 ((m : Int) / 16) = ((m / 16 : Nat) : Int) := by
  unfold wrap64
  omega
theorem w64_less {m r : Nat} (h : m ≤ r) (hr : r ≤ 1114111) (hm : m ≠ 0) : (intOf (.int .i64 (wrap64 ((m : Int) / 16)))).toNat < (intOf (.int .i64 (m : Int))).toNat := by
  rw [w64_div h hr]
  show (((m / 16 : Nat) : Int)).toNat < ((m : Int)).toNat
  omega
theorem hexs_size (d : Nat) : (strOfNums [hexc d]).size = 1 := by rw [strOfNums_size]; rfl
theorem hex_slice2 (m : Nat) (W : World) : (Instr.slice 9 (.string ⟨#[48, 49, 50, 51, 52, 53, 54, 55, 56, 57, 97, 98, 99, 100, 101, 102]⟩) (some (.int .i64 ((m : Int) % 16))) (some (.int .i64 ((m : Int) % 16 + 1))) none).run Try.prog W = .ok (.string (strOfNums [hexc (m % 16)])) W := by
  have h0 := hex_slice (k := m % 16) (by omega) W
  have e : ((m % 16 : Nat) : Int) = (m : Int) % 16 := by omega
  rw [e] at h0
  exact h0
theorem escL_asc : ∀ l : List Nat, ∀ x ∈ escL l, x = 9 ∨ x = 10 ∨ (32 ≤ x ∧ x ≤ 126)
  | [], x, h => by simp [escL] at h
  | n :: l, x, h => by
    have hn : ∀ y ∈ hexN n, 48 ≤ y ∧ y ≤ 102 := by
      intro y hy
      suffices H : ∀ m : Nat, ∀ y ∈ hexN m, 48 ≤ y ∧ y ≤ 102 from H n y hy
      intro m
      induction m using Nat.strongRecOn with
      | _ m ih =>
        intro y hy
        rw [hexN] at hy
        by_cases h0 : m = 0
        · rw [dif_pos h0] at hy; simp at hy
        · rw [dif_neg h0, List.mem_append] at hy
          rcases hy with hy | hy
          · exact ih (m / 16) (by omega) y hy
          · simp at hy; subst hy; exact hexc_bd (by omega)
    have h2 := escL_asc l x
    unfold escL at h h2
    rw [List.flatMap_cons, List.mem_append] at h
    rcases h with h | h
    · simp at h
      rcases h with h | h | h
      · omega
      · have := hn x h; omega
      · omega
    · exact h2 h
theorem bs_drew {w a : World} (h : Below w.heap.size w a) : Below w.heap.size w a.drew := below_seq h (below_dr a)
theorem bs_alloc {w a : World} {o : Obj} (h : Below w.heap.size w a) : Below w.heap.size w (a.alloc o) := below_seq h (below_al a o)
theorem names_size {a b t : ByteArray} (ha : a.size ≤ 1) (hb : b.size ≤ 1) (ht : t.size ≤ 1000) : (a ++ t ++ b).size ≤ 100000000 := by
  rw [ByteArray.size_append, ByteArray.size_append]; omega
theorem names_toks {k : Nat} (hk : k ≤ 3) {l : List Nat} {t u a b : ByteArray} (hI : NmI l t u) (ha : nums a = preM k) (hb : nums b = postM k) (hu : k = 3 → ((lowS u).toList == [117, 114, 108]) = false) :
    toks (readS (a ++ t ++ b)) = [{ kind := if k = 0 then 1 else if k = 1 then 4 else if k = 2 then 3 else 2, text := u, id := decide (k = 1) }] := by
  have hN : nums (a ++ t ++ b) = preM k ++ (97 :: (escL l ++ postM k)) := by rw [nums_append, nums_append, ha, hb, hI.text]; simp
  have hA : ∀ x ∈ nums (a ++ t ++ b), x = 9 ∨ x = 10 ∨ (32 ≤ x ∧ x ≤ 126) := by
    rw [hN]
    intro x hx
    simp only [List.mem_append, List.mem_cons] at hx
    rcases hx with hx | hx | hx | hx
    · unfold preM at hx; split at hx
      · simp at hx; omega
      · split at hx
        · simp at hx; omega
        · simp at hx
    · omega
    · exact escL_asc l x hx
    · unfold postM at hx; split at hx
      · simp at hx; omega
      · simp at hx
  rw [ascii_ok hA, hN, nametok k hk l hI.ok (fun h => by rw [← hI.want]; exact hu h), hI.want]
  rfl
end Go.Proofs.Ytdnpnbikhieneaa
