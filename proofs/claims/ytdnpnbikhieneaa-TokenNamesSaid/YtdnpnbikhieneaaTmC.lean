
import Derived.Test.YtdnpnbikhieneaaTmB
import Derived.Test.YtdnpnbikhieneaaTnB
import Derived.Test.YtdnpnbikhieneaaPtsBk
namespace Go.Proofs.Ytdnpnbikhieneaa
open Go.RowKit
/-! What TokenNames' loops have put together. -/
def hexS : ByteArray := ⟨#[48, 49, 50, 51, 52, 53, 54, 55, 56, 57, 97, 98, 99, 100, 101, 102]⟩
theorem hex_cut : ∀ k : Fin 16, hexS.extract k.val (k.val + 1) = strOfNums [hexc k.val] := by decide +kernel
theorem hex_slice {k : Nat} (hk : k < 16) (W : World) : (Instr.slice 9 (.string hexS) (some (.int .i64 (k : Int))) (some (.int .i64 ((k : Int) + 1))) none).run Try.prog W = .ok (.string (strOfNums [hexc k])) W := by
  rw [run_slice_string W 9 hexS .i64 .i64 (k : Int) ((k : Int) + 1) Try.underlying9 (by omega) (by omega) (by show _ ≤ ((16 : Nat) : Int); omega)]
  have h := hex_cut ⟨k, hk⟩
  simp only at h
  rw [show ((k : Int) + 1).toNat = k + 1 by omega, Int.toNat_natCast, h]
theorem hexc_bd {d : Nat} (h : d < 16) : 48 ≤ hexc d ∧ hexc d ≤ 102 := by unfold hexc; split <;> omega
/-- The digits that are there already, behind those still to come. -/
structure HxI (r m : Nat) (h : ByteArray) : Prop where
  le : m ≤ r
  digs : hexN r = hexN m ++ nums h
theorem HxI.start (r : Nat) : HxI r r ⟨#[]⟩ := ⟨Nat.le_refl _, (List.append_nil _).symm⟩
theorem HxI.step {r m : Nat} {h : ByteArray} (hI : HxI r m h) (hm : m ≠ 0) : HxI r (m / 16) (strOfNums [hexc (m % 16)] ++ h) := by
  have hn : nums (strOfNums [hexc (m % 16)]) = [hexc (m % 16)] := nums_str (by intro y hy; simp at hy; have := hexc_bd (d := m % 16) (by omega); omega)
  have e : hexN m = hexN (m / 16) ++ [hexc (m % 16)] := by rw [hexN, dif_neg hm]
  refine ⟨by have := hI.le; omega, ?_⟩
  rw [hI.digs, e, nums_append, hn, List.append_assoc]
theorem HxI.last {r : Nat} {h : ByteArray} (hI : HxI r 0 h) : nums h = hexN r := by
  have e : hexN 0 = [] := by rw [hexN, dif_pos rfl]
  rw [hI.digs, e, List.nil_append]
theorem HxI.size {r m : Nat} {h : ByteArray} (hI : HxI r m h) (hr : r ≤ 1114111) : h.size ≤ 6 := by
  have h1 := hexN_len 6 r (by omega)
  rw [hI.digs, List.length_append, nums_length] at h1
  omega
/-- So many signs are put together: the text, and the name that is wanted. -/
structure NmI (l : List Nat) (t u : ByteArray) : Prop where
  ok : ∀ n ∈ l, mayEsc n
  text : nums t = 97 :: escL l
  want : u = runesBytes (97 :: l.map (fun n : Nat => (n : Int)))
theorem NmI.start : NmI [] ⟨#[97]⟩ ⟨#[97]⟩ := ⟨by intro n hn; simp at hn, by rfl, by decide +kernel⟩
theorem NmI.step {l : List Nat} {t u h : ByteArray} {r : Nat} (hI : NmI l t u) (hr : mayEsc r) (hh : nums h = hexN r) : NmI (l ++ [r]) (t ++ ⟨#[92]⟩ ++ h ++ ⟨#[32]⟩) (u ++ Utf8.encode (r : Int)) := by
  refine ⟨fun n hn => ?_, ?_, ?_⟩
  · rw [List.mem_append] at hn
    rcases hn with hn | hn
    · exact hI.ok n hn
    · simp at hn; subst hn; exact hr
  · rw [nums_append, nums_append, nums_append, hI.text, hh]
    unfold escL
    rw [List.flatMap_append]
    simp
    rfl
  · rw [List.map_append, ← List.cons_append, List.map_cons, List.map_nil, runesBytes_snoc, ← hI.want]
theorem escL_len : ∀ l : List Nat, (∀ n ∈ l, mayEsc n) → (escL l).length ≤ 8 * l.length
  | [], _ => by simp [escL]
  | n :: l, h => by
    have h1 := escL_len l (fun x hx => h x (by simp [hx]))
    have h2 := hexN_len 6 n (by have := (h n (by simp)).2.1; omega)
    unfold escL at h1 ⊢
    rw [List.flatMap_cons, List.length_append, List.length_cons, List.length_append, List.length_singleton, List.length_cons]
    omega
theorem NmI.tsize {l : List Nat} {t u : ByteArray} (hI : NmI l t u) : t.size ≤ 1 + 8 * l.length := by
  have h1 := congrArg List.length hI.text
  have h2 := escL_len l hI.ok
  rw [nums_length, List.length_cons] at h1
  omega
end Go.Proofs.Ytdnpnbikhieneaa
