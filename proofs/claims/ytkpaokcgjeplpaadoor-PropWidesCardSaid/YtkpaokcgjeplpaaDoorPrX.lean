
import Derived.Test.YtkpaokcgjeplpaaDoorPrRa
namespace Go.Proofs.YtkpaokcgjeplpaaDoor
open Go.RowKit
/-! PropWides: its texts (pure). -/
abbrev pwN : List ByteArray := [⟨#[99, 111, 108, 111, 114]⟩, ⟨#[99, 111, 110, 116, 101, 110, 116]⟩, ⟨#[99, 111, 117, 110, 116, 101, 114, 45, 105, 110, 99, 114, 101, 109, 101, 110, 116]⟩, ⟨#[99, 111, 117, 110, 116, 101, 114, 45, 114, 101, 115, 101, 116]⟩, ⟨#[99, 111, 117, 110, 116, 101, 114, 45, 115, 101, 116]⟩, ⟨#[100, 105, 115, 112, 108, 97, 121]⟩, ⟨#[108, 105, 115, 116, 45, 115, 116, 121, 108, 101, 45, 116, 121, 112, 101]⟩, ⟨#[113, 117, 111, 116, 101, 115]⟩]
abbrev pwW : List ByteArray := [⟨#[73, 110, 72, 101, 114, 105, 116]⟩, ⟨#[73, 78, 73, 84, 73, 65, 76]⟩, ⟨#[117, 110, 115, 101, 116]⟩]
theorem pw_names : namesL = pwN := by kernel_rfl
def pwT (i j : Nat) : ByteArray := (pwN.getD i ⟨#[]⟩ ++ (⟨#[58, 32]⟩ : ByteArray)) ++ pwW.getD j ⟨#[]⟩
def pwM (i j : Nat) : ByteArray := pwT i j ++ (⟨#[32, 39, 120, 39]⟩ : ByteArray)
theorem pw_ok : ∀ (i : Fin 8) (j : Fin 3), (okT (pwT i.val j.val) && okT (pwM i.val j.val)) = true := by decide +kernel
theorem pw_yes : ∀ (i j : Nat), i < 8 → j < 3 → one12 (pwT i j) = ({ name := pwN.getD i ⟨#[]⟩, wide := 1 + (j : Int) }, 0)
  | 0, 0, _, _ => by kernel_rfl
  | 0, 1, _, _ => by kernel_rfl
  | 0, 2, _, _ => by kernel_rfl
  | 1, 0, _, _ => by kernel_rfl
  | 1, 1, _, _ => by kernel_rfl
  | 1, 2, _, _ => by kernel_rfl
  | 2, 0, _, _ => by kernel_rfl
  | 2, 1, _, _ => by kernel_rfl
  | 2, 2, _, _ => by kernel_rfl
  | 3, 0, _, _ => by kernel_rfl
  | 3, 1, _, _ => by kernel_rfl
  | 3, 2, _, _ => by kernel_rfl
  | 4, 0, _, _ => by kernel_rfl
  | 4, 1, _, _ => by kernel_rfl
  | 4, 2, _, _ => by kernel_rfl
  | 5, 0, _, _ => by kernel_rfl
  | 5, 1, _, _ => by kernel_rfl
  | 5, 2, _, _ => by kernel_rfl
  | 6, 0, _, _ => by kernel_rfl
  | 6, 1, _, _ => by kernel_rfl
  | 6, 2, _, _ => by kernel_rfl
  | 7, 0, _, _ => by kernel_rfl
  | 7, 1, _, _ => by kernel_rfl
  | 7, 2, _, _ => by kernel_rfl
  | i + 8, _, h, _ => absurd h (by omega)
  | 0, j + 3, _, h => absurd h (by omega)
  | 1, j + 3, _, h => absurd h (by omega)
  | 2, j + 3, _, h => absurd h (by omega)
  | 3, j + 3, _, h => absurd h (by omega)
  | 4, j + 3, _, h => absurd h (by omega)
  | 5, j + 3, _, h => absurd h (by omega)
  | 6, j + 3, _, h => absurd h (by omega)
  | 7, j + 3, _, h => absurd h (by omega)
theorem pw_no : ∀ (i j : Nat), i < 8 → j < 3 → one12 (pwM i j) = ({}, 2)
  | 0, 0, _, _ => by kernel_rfl
  | 0, 1, _, _ => by kernel_rfl
  | 0, 2, _, _ => by kernel_rfl
  | 1, 0, _, _ => by kernel_rfl
  | 1, 1, _, _ => by kernel_rfl
  | 1, 2, _, _ => by kernel_rfl
  | 2, 0, _, _ => by kernel_rfl
  | 2, 1, _, _ => by kernel_rfl
  | 2, 2, _, _ => by kernel_rfl
  | 3, 0, _, _ => by kernel_rfl
  | 3, 1, _, _ => by kernel_rfl
  | 3, 2, _, _ => by kernel_rfl
  | 4, 0, _, _ => by kernel_rfl
  | 4, 1, _, _ => by kernel_rfl
  | 4, 2, _, _ => by kernel_rfl
  | 5, 0, _, _ => by kernel_rfl
  | 5, 1, _, _ => by kernel_rfl
  | 5, 2, _, _ => by kernel_rfl
  | 6, 0, _, _ => by kernel_rfl
  | 6, 1, _, _ => by kernel_rfl
  | 6, 2, _, _ => by kernel_rfl
  | 7, 0, _, _ => by kernel_rfl
  | 7, 1, _, _ => by kernel_rfl
  | 7, 2, _, _ => by kernel_rfl
  | i + 8, _, h, _ => absurd h (by omega)
  | 0, j + 3, _, h => absurd h (by omega)
  | 1, j + 3, _, h => absurd h (by omega)
  | 2, j + 3, _, h => absurd h (by omega)
  | 3, j + 3, _, h => absurd h (by omega)
  | 4, j + 3, _, h => absurd h (by omega)
  | 5, j + 3, _, h => absurd h (by omega)
  | 6, j + 3, _, h => absurd h (by omega)
  | 7, j + 3, _, h => absurd h (by omega)
end Go.Proofs.YtkpaokcgjeplpaaDoor
