
import Derived.Test.YtjjlnmjapfcmaaaDoorDeS
import Derived.Test.YtjjlnmjapfcmaaaDoorTkU
import Derived.Deep.RegionHeld3
namespace Go.Proofs.YtjjlnmjapfcmaaaDoor
open Go.RowKit
/-! DefineNames: its twelve words, in four forms. -/
abbrev dnW : Array Value := #[.string ⟨#[97, 98, 99]⟩, .string ⟨#[65, 98, 99]⟩, .string ⟨#[110, 111, 110, 101]⟩, .string ⟨#[78, 79, 78, 69]⟩, .string ⟨#[105, 110, 105, 116, 105, 97, 108]⟩, .string ⟨#[73, 110, 104, 101, 114, 105, 116]⟩, .string ⟨#[117, 110, 115, 101, 116]⟩, .string ⟨#[100, 101, 102, 97, 117, 108, 116]⟩, .string ⟨#[68, 73, 83, 67]⟩, .string ⟨#[76, 111, 119, 101, 114, 45, 65, 108, 112, 104, 97]⟩, .string ⟨#[100, 101, 99, 105, 109, 97, 108]⟩, .string ⟨#[120, 45, 121]⟩]
abbrev dnZ : Array Value := #[.string ⟨#[97, 98, 99]⟩, .string ⟨#[65, 98, 99]⟩, .string ⟨#[]⟩, .string ⟨#[]⟩, .string ⟨#[]⟩, .string ⟨#[]⟩, .string ⟨#[]⟩, .string ⟨#[]⟩, .string ⟨#[100, 105, 115, 99]⟩, .string ⟨#[108, 111, 119, 101, 114, 45, 97, 108, 112, 104, 97]⟩, .string ⟨#[100, 101, 99, 105, 109, 97, 108]⟩, .string ⟨#[120, 45, 121]⟩]
def wdN (i : Nat) : ByteArray := ([⟨#[97, 98, 99]⟩, ⟨#[65, 98, 99]⟩, ⟨#[110, 111, 110, 101]⟩, ⟨#[78, 79, 78, 69]⟩, ⟨#[105, 110, 105, 116, 105, 97, 108]⟩, ⟨#[73, 110, 104, 101, 114, 105, 116]⟩, ⟨#[117, 110, 115, 101, 116]⟩, ⟨#[100, 101, 102, 97, 117, 108, 116]⟩, ⟨#[68, 73, 83, 67]⟩, ⟨#[76, 111, 119, 101, 114, 45, 65, 108, 112, 104, 97]⟩, ⟨#[100, 101, 99, 105, 109, 97, 108]⟩, ⟨#[120, 45, 121]⟩] : List ByteArray).getD i ⟨#[]⟩
def wnN (i : Nat) : ByteArray := ([⟨#[97, 98, 99]⟩, ⟨#[65, 98, 99]⟩, ⟨#[]⟩, ⟨#[]⟩, ⟨#[]⟩, ⟨#[]⟩, ⟨#[]⟩, ⟨#[]⟩, ⟨#[100, 105, 115, 99]⟩, ⟨#[108, 111, 119, 101, 114, 45, 97, 108, 112, 104, 97]⟩, ⟨#[100, 101, 99, 105, 109, 97, 108]⟩, ⟨#[120, 45, 121]⟩] : List ByteArray).getD i ⟨#[]⟩
def formN (X : ByteArray) (h : Nat) : ByteArray := if h = 0 then X else if h = 1 then ⟨#[32]⟩ ++ X ++ ⟨#[10]⟩ else if h = 2 then X ++ ⟨#[32, 120]⟩ else ⟨#[39]⟩ ++ X ++ ⟨#[39]⟩
abbrev preN : ByteArray := ⟨#[64, 99, 111, 117, 110, 116, 101, 114, 45, 115, 116, 121, 108, 101, 32]⟩
abbrev postN : ByteArray := ⟨#[32, 123, 32, 115, 121, 109, 98, 111, 108, 115, 58, 32, 97, 32, 125]⟩
def oneN (s : ByteArray) : ByteArray := preN ++ s ++ postN
def mayN (Z : ByteArray) : Bool := !(Z.toList.isEmpty) && !(Z.toList == [100, 105, 115, 99]) && !(Z.toList == [100, 101, 99, 105, 109, 97, 108])
def checkN (s Z : ByteArray) (h : Nat) : Bool :=
  decide (s.size ≤ 1000) && decide (szL (ndsS (toks (readS s))) ≤ 100000000) && txB (ndsS (toks (readS s))) &&
  (if h ≤ 1 then decide ((nameS (ndsS (toks (readS s)))).1 = Z) && ((nameS (ndsS (toks (readS s)))).2 == !(Z.toList.isEmpty)) && oneOk (oneN s) && (if mayN Z then decide (errO (oneN s) = 0) && decide ((resO (oneN s)).name = Z) else decide (errO (oneN s) = 2))
   else decide (nameS (ndsS (toks (readS s))) = (⟨#[]⟩, false)))
theorem checkN_all : ∀ i : Fin 12, ∀ h : Fin 4, checkN (formN (wdN i) h) (wnN i) h = true := by decide +kernel
theorem dnW_at : ∀ i : Fin 12, dnW[i.val]? = some (.string (wdN i)) := fun ⟨i, hi⟩ => by
  match i, hi with
  | 0, _ => rfl
  | 1, _ => rfl
  | 2, _ => rfl
  | 3, _ => rfl
  | 4, _ => rfl
  | 5, _ => rfl
  | 6, _ => rfl
  | 7, _ => rfl
  | 8, _ => rfl
  | 9, _ => rfl
  | 10, _ => rfl
  | 11, _ => rfl
theorem dnZ_at : ∀ i : Fin 12, dnZ[i.val]? = some (.string (wnN i)) := fun ⟨i, hi⟩ => by
  match i, hi with
  | 0, _ => rfl
  | 1, _ => rfl
  | 2, _ => rfl
  | 3, _ => rfl
  | 4, _ => rfl
  | 5, _ => rfl
  | 6, _ => rfl
  | 7, _ => rfl
  | 8, _ => rfl
  | 9, _ => rfl
  | 10, _ => rfl
  | 11, _ => rfl
theorem wdN_size : ∀ i : Fin 12, (wdN i).size ≤ 20 := by decide +kernel
theorem form_at (X : ByteArray) : ∀ h : Fin 4, (#[.string X, .string (⟨#[32]⟩ ++ X ++ ⟨#[10]⟩), .string (X ++ ⟨#[32, 120]⟩), .string (⟨#[39]⟩ ++ X ++ ⟨#[39]⟩)] : Array Value)[h.val]? = some (.string (formN X h)) := fun ⟨h, hh⟩ => by
  match h, hh with
  | 0, _ => rfl
  | 1, _ => rfl
  | 2, _ => rfl
  | 3, _ => rfl
end Go.Proofs.YtjjlnmjapfcmaaaDoor
