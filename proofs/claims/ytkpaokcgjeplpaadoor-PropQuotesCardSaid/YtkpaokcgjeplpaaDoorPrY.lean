
import Derived.Test.YtkpaokcgjeplpaaDoorPrRa
import Derived.Test.YtkpaokcgjeplpaaDoorTnA
namespace Go.Proofs.YtkpaokcgjeplpaaDoor
open Go.RowKit
/-! PropQuotes: its texts (pure). -/
def dQ (i : Nat) : ByteArray := strOfNums (decT (i : Int))
def qT : Nat → ByteArray
  | 0 => ⟨#[113, 117, 111, 116, 101, 115, 58]⟩
  | n + 1 => ((qT n ++ (⟨#[32, 39, 113]⟩ : ByteArray)) ++ dQ n) ++ (⟨#[39]⟩ : ByteArray)
def qW (n : Nat) : List ByteArray := (List.range n).map fun i => (⟨#[113]⟩ : ByteArray) ++ dQ i
abbrev qS : List ByteArray := [⟨#[]⟩, ⟨#[32, 120]⟩, ⟨#[32, 110, 111, 110, 101]⟩, ⟨#[32, 51]⟩]
def qX (n k : Nat) : ByteArray := qT n ++ qS.getD k ⟨#[]⟩
def qgood (n k : Nat) : Bool := (k == 0) && ((n % 2 == 0) && decide (n ≤ 32))
def qres (n k : Nat) (r : VaD × Int) : Bool :=
  if n = 0 then ((r.2 == 0) == (k == 2)) && (r.1.sty.quotes.isEmpty && !r.1.sty.auto)
  else if qgood n k = true then (r.2 == 0) && ((r.1.sty.quotes.map (·.data.toList) == (qW n).map (·.data.toList)) && !r.1.sty.auto)
  else !(r.2 == 0)
def qchk (n k : Nat) : Bool := okT (qX n k) && qres n k (one12 (qX n k))
set_option maxRecDepth 100000 in
set_option maxHeartbeats 6400000 in
theorem qchk0 : ∀ n : Nat, n < 41 → qchk n 0 = true
  | 0, _ => by as_aux_lemma => kernel_rfl
  | 1, _ => by as_aux_lemma => kernel_rfl
  | 2, _ => by as_aux_lemma => kernel_rfl
  | 3, _ => by as_aux_lemma => kernel_rfl
  | 4, _ => by as_aux_lemma => kernel_rfl
  | 5, _ => by as_aux_lemma => kernel_rfl
  | 6, _ => by as_aux_lemma => kernel_rfl
  | 7, _ => by as_aux_lemma => kernel_rfl
  | 8, _ => by as_aux_lemma => kernel_rfl
  | 9, _ => by as_aux_lemma => kernel_rfl
  | 10, _ => by as_aux_lemma => kernel_rfl
  | 11, _ => by as_aux_lemma => kernel_rfl
  | 12, _ => by as_aux_lemma => kernel_rfl
  | 13, _ => by as_aux_lemma => kernel_rfl
  | 14, _ => by as_aux_lemma => kernel_rfl
  | 15, _ => by as_aux_lemma => kernel_rfl
  | 16, _ => by as_aux_lemma => kernel_rfl
  | 17, _ => by as_aux_lemma => kernel_rfl
  | 18, _ => by as_aux_lemma => kernel_rfl
  | 19, _ => by as_aux_lemma => kernel_rfl
  | 20, _ => by as_aux_lemma => kernel_rfl
  | 21, _ => by as_aux_lemma => kernel_rfl
  | 22, _ => by as_aux_lemma => kernel_rfl
  | 23, _ => by as_aux_lemma => kernel_rfl
  | 24, _ => by as_aux_lemma => kernel_rfl
  | 25, _ => by as_aux_lemma => kernel_rfl
  | 26, _ => by as_aux_lemma => kernel_rfl
  | 27, _ => by as_aux_lemma => kernel_rfl
  | 28, _ => by as_aux_lemma => kernel_rfl
  | 29, _ => by as_aux_lemma => kernel_rfl
  | 30, _ => by as_aux_lemma => kernel_rfl
  | 31, _ => by as_aux_lemma => kernel_rfl
  | 32, _ => by as_aux_lemma => kernel_rfl
  | 33, _ => by as_aux_lemma => kernel_rfl
  | 34, _ => by as_aux_lemma => kernel_rfl
  | 35, _ => by as_aux_lemma => kernel_rfl
  | 36, _ => by as_aux_lemma => kernel_rfl
  | 37, _ => by as_aux_lemma => kernel_rfl
  | 38, _ => by as_aux_lemma => kernel_rfl
  | 39, _ => by as_aux_lemma => kernel_rfl
  | 40, _ => by as_aux_lemma => kernel_rfl
  | n + 41, h => absurd h (by omega)
set_option maxRecDepth 100000 in
set_option maxHeartbeats 6400000 in
theorem qchk1 : ∀ n : Nat, n < 41 → qchk n 1 = true
  | 0, _ => by as_aux_lemma => kernel_rfl
  | 1, _ => by as_aux_lemma => kernel_rfl
  | 2, _ => by as_aux_lemma => kernel_rfl
  | 3, _ => by as_aux_lemma => kernel_rfl
  | 4, _ => by as_aux_lemma => kernel_rfl
  | 5, _ => by as_aux_lemma => kernel_rfl
  | 6, _ => by as_aux_lemma => kernel_rfl
  | 7, _ => by as_aux_lemma => kernel_rfl
  | 8, _ => by as_aux_lemma => kernel_rfl
  | 9, _ => by as_aux_lemma => kernel_rfl
  | 10, _ => by as_aux_lemma => kernel_rfl
  | 11, _ => by as_aux_lemma => kernel_rfl
  | 12, _ => by as_aux_lemma => kernel_rfl
  | 13, _ => by as_aux_lemma => kernel_rfl
  | 14, _ => by as_aux_lemma => kernel_rfl
  | 15, _ => by as_aux_lemma => kernel_rfl
  | 16, _ => by as_aux_lemma => kernel_rfl
  | 17, _ => by as_aux_lemma => kernel_rfl
  | 18, _ => by as_aux_lemma => kernel_rfl
  | 19, _ => by as_aux_lemma => kernel_rfl
  | 20, _ => by as_aux_lemma => kernel_rfl
  | 21, _ => by as_aux_lemma => kernel_rfl
  | 22, _ => by as_aux_lemma => kernel_rfl
  | 23, _ => by as_aux_lemma => kernel_rfl
  | 24, _ => by as_aux_lemma => kernel_rfl
  | 25, _ => by as_aux_lemma => kernel_rfl
  | 26, _ => by as_aux_lemma => kernel_rfl
  | 27, _ => by as_aux_lemma => kernel_rfl
  | 28, _ => by as_aux_lemma => kernel_rfl
  | 29, _ => by as_aux_lemma => kernel_rfl
  | 30, _ => by as_aux_lemma => kernel_rfl
  | 31, _ => by as_aux_lemma => kernel_rfl
  | 32, _ => by as_aux_lemma => kernel_rfl
  | 33, _ => by as_aux_lemma => kernel_rfl
  | 34, _ => by as_aux_lemma => kernel_rfl
  | 35, _ => by as_aux_lemma => kernel_rfl
  | 36, _ => by as_aux_lemma => kernel_rfl
  | 37, _ => by as_aux_lemma => kernel_rfl
  | 38, _ => by as_aux_lemma => kernel_rfl
  | 39, _ => by as_aux_lemma => kernel_rfl
  | 40, _ => by as_aux_lemma => kernel_rfl
  | n + 41, h => absurd h (by omega)
set_option maxRecDepth 100000 in
set_option maxHeartbeats 6400000 in
theorem qchk2 : ∀ n : Nat, n < 41 → qchk n 2 = true
  | 0, _ => by as_aux_lemma => kernel_rfl
  | 1, _ => by as_aux_lemma => kernel_rfl
  | 2, _ => by as_aux_lemma => kernel_rfl
  | 3, _ => by as_aux_lemma => kernel_rfl
  | 4, _ => by as_aux_lemma => kernel_rfl
  | 5, _ => by as_aux_lemma => kernel_rfl
  | 6, _ => by as_aux_lemma => kernel_rfl
  | 7, _ => by as_aux_lemma => kernel_rfl
  | 8, _ => by as_aux_lemma => kernel_rfl
  | 9, _ => by as_aux_lemma => kernel_rfl
  | 10, _ => by as_aux_lemma => kernel_rfl
  | 11, _ => by as_aux_lemma => kernel_rfl
  | 12, _ => by as_aux_lemma => kernel_rfl
  | 13, _ => by as_aux_lemma => kernel_rfl
  | 14, _ => by as_aux_lemma => kernel_rfl
  | 15, _ => by as_aux_lemma => kernel_rfl
  | 16, _ => by as_aux_lemma => kernel_rfl
  | 17, _ => by as_aux_lemma => kernel_rfl
  | 18, _ => by as_aux_lemma => kernel_rfl
  | 19, _ => by as_aux_lemma => kernel_rfl
  | 20, _ => by as_aux_lemma => kernel_rfl
  | 21, _ => by as_aux_lemma => kernel_rfl
  | 22, _ => by as_aux_lemma => kernel_rfl
  | 23, _ => by as_aux_lemma => kernel_rfl
  | 24, _ => by as_aux_lemma => kernel_rfl
  | 25, _ => by as_aux_lemma => kernel_rfl
  | 26, _ => by as_aux_lemma => kernel_rfl
  | 27, _ => by as_aux_lemma => kernel_rfl
  | 28, _ => by as_aux_lemma => kernel_rfl
  | 29, _ => by as_aux_lemma => kernel_rfl
  | 30, _ => by as_aux_lemma => kernel_rfl
  | 31, _ => by as_aux_lemma => kernel_rfl
  | 32, _ => by as_aux_lemma => kernel_rfl
  | 33, _ => by as_aux_lemma => kernel_rfl
  | 34, _ => by as_aux_lemma => kernel_rfl
  | 35, _ => by as_aux_lemma => kernel_rfl
  | 36, _ => by as_aux_lemma => kernel_rfl
  | 37, _ => by as_aux_lemma => kernel_rfl
  | 38, _ => by as_aux_lemma => kernel_rfl
  | 39, _ => by as_aux_lemma => kernel_rfl
  | 40, _ => by as_aux_lemma => kernel_rfl
  | n + 41, h => absurd h (by omega)
set_option maxRecDepth 100000 in
set_option maxHeartbeats 6400000 in
theorem qchk3 : ∀ n : Nat, n < 41 → qchk n 3 = true
  | 0, _ => by as_aux_lemma => kernel_rfl
  | 1, _ => by as_aux_lemma => kernel_rfl
  | 2, _ => by as_aux_lemma => kernel_rfl
  | 3, _ => by as_aux_lemma => kernel_rfl
  | 4, _ => by as_aux_lemma => kernel_rfl
  | 5, _ => by as_aux_lemma => kernel_rfl
  | 6, _ => by as_aux_lemma => kernel_rfl
  | 7, _ => by as_aux_lemma => kernel_rfl
  | 8, _ => by as_aux_lemma => kernel_rfl
  | 9, _ => by as_aux_lemma => kernel_rfl
  | 10, _ => by as_aux_lemma => kernel_rfl
  | 11, _ => by as_aux_lemma => kernel_rfl
  | 12, _ => by as_aux_lemma => kernel_rfl
  | 13, _ => by as_aux_lemma => kernel_rfl
  | 14, _ => by as_aux_lemma => kernel_rfl
  | 15, _ => by as_aux_lemma => kernel_rfl
  | 16, _ => by as_aux_lemma => kernel_rfl
  | 17, _ => by as_aux_lemma => kernel_rfl
  | 18, _ => by as_aux_lemma => kernel_rfl
  | 19, _ => by as_aux_lemma => kernel_rfl
  | 20, _ => by as_aux_lemma => kernel_rfl
  | 21, _ => by as_aux_lemma => kernel_rfl
  | 22, _ => by as_aux_lemma => kernel_rfl
  | 23, _ => by as_aux_lemma => kernel_rfl
  | 24, _ => by as_aux_lemma => kernel_rfl
  | 25, _ => by as_aux_lemma => kernel_rfl
  | 26, _ => by as_aux_lemma => kernel_rfl
  | 27, _ => by as_aux_lemma => kernel_rfl
  | 28, _ => by as_aux_lemma => kernel_rfl
  | 29, _ => by as_aux_lemma => kernel_rfl
  | 30, _ => by as_aux_lemma => kernel_rfl
  | 31, _ => by as_aux_lemma => kernel_rfl
  | 32, _ => by as_aux_lemma => kernel_rfl
  | 33, _ => by as_aux_lemma => kernel_rfl
  | 34, _ => by as_aux_lemma => kernel_rfl
  | 35, _ => by as_aux_lemma => kernel_rfl
  | 36, _ => by as_aux_lemma => kernel_rfl
  | 37, _ => by as_aux_lemma => kernel_rfl
  | 38, _ => by as_aux_lemma => kernel_rfl
  | 39, _ => by as_aux_lemma => kernel_rfl
  | 40, _ => by as_aux_lemma => kernel_rfl
  | n + 41, h => absurd h (by omega)
theorem qchk_all {n k : Nat} (hn : n < 41) (hk : k < 4) : qchk n k = true := by
  rcases (by omega : k = 0 ∨ k = 1 ∨ k = 2 ∨ k = 3) with rfl | rfl | rfl | rfl
  · exact qchk0 n hn
  · exact qchk1 n hn
  · exact qchk2 n hn
  · exact qchk3 n hn
theorem maps_eq : ∀ {a b : List ByteArray}, a.map (·.data.toList) = b.map (·.data.toList) → a = b
  | [], [], _ => rfl
  | [], _ :: _, h => by simp at h
  | _ :: _, [], h => by simp at h
  | x :: a, y :: b, h => by
    rw [List.map_cons, List.map_cons] at h
    injection h with h1 h2
    rw [ByteArray.ext (Array.ext' h1), maps_eq h2]
theorem qT_size : ∀ n : Fin 41, (qT n.val).size ≤ 1000 := by decide +kernel
end Go.Proofs.YtkpaokcgjeplpaaDoor
