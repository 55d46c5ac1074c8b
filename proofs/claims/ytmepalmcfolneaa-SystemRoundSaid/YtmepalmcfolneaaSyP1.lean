
import Derived.Test.YtmepalmcfolneaaSyO
import Derived.KernelRfl
namespace Go.Proofs.Ytmepalmcfolneaa
open Go.RowKit
/-- A style that the law makes. -/
abbrev madeD (s : ByteArray) (l : List ByteArray) : DefD := ⟨⟨#[]⟩, s, 1, l, [], ⟨#[]⟩, ⟨#[]⟩, ⟨#[]⟩, ⟨#[]⟩, true, [], 0, ⟨#[]⟩, ⟨#[]⟩, ⟨#[]⟩, 0⟩
abbrev madeV (s : ByteArray) (sv : Value) : Value :=
  .agg #[.string ⟨#[]⟩, .string s, .int .i64 1, sv, .slice none 0 0, .string ⟨#[]⟩, .string ⟨#[]⟩, .string ⟨#[]⟩, .string ⟨#[]⟩, .bool true, .slice none 0 0, .int .i64 0, .string ⟨#[]⟩, .string ⟨#[]⟩, .string ⟨#[]⟩, .int .i64 0]
theorem nth_nil (j : Nat) : nth [] j = 0 := rfl
theorem madeQ {w : World} {s : ByteArray} {l : List ByteArray} {sv : Value} (h : RdTx w sv l) (hl : l.length ≤ 100000) : DefQ w (madeD s l) sv (.slice none 0 0) (.slice none 0 0) :=
  ⟨⟨h, Rd.nil' _ _ _, RdP.nil _ _ _, hl, by simp, by simp⟩, ⟨show (-9223372036854775808 : Int) ≤ 1 by decide, show (1 : Int) ≤ 9223372036854775807 by decide⟩, fun j => by rw [nth_nil]; decide⟩
set_option maxRecDepth 100000 in
set_option maxHeartbeats 800000 in
theorem made_any (w : World) (s : ByteArray) (a : Option Addr) (n c : Nat) :
    Calls Try.prog 5 #[.string s, .slice a n c] w fun e w' => e = .returned (madeV s (.slice a n c)) ∧ Below w.heap.size w w' := by
  go_enter Try.func5, Try.ntmps5
  go_wp2
  refine bodyPost_ret (v := madeV s (.slice a n c)) (by simp [results, Try.results5, go_sem]) rfl ⟨rfl, ?_⟩
  exact below_al2 _ _
theorem rdT_one (w : World) (t : TypeId) (a : ByteArray) (H : Nat) (hH : w.heap.size = H) : RdTx (w.alloc (.cells #[.string a] t)) (.slice (some ⟨H, 0, none⟩) 1 1) [a] := by
  subst hH
  refine ⟨_, 1, rfl, Nat.le_refl _, fun _ => ⟨_, 0, rfl, by simp, fun j hj => ?_⟩⟩
  unfold World.cell?
  rw [heap_alloc_self]
  have hj5 : j < 1 := hj
  obtain rfl : j = 0 := by omega
  rfl
theorem rdT_two (w : World) (t : TypeId) (a b : ByteArray) (H : Nat) (hH : w.heap.size = H) : RdTx (w.alloc (.cells #[.string a, .string b] t)) (.slice (some ⟨H, 0, none⟩) 2 2) [a, b] := by
  subst hH
  refine ⟨_, 2, rfl, Nat.le_refl _, fun _ => ⟨_, 0, rfl, by simp, fun j hj => ?_⟩⟩
  unfold World.cell?
  rw [heap_alloc_self]
  have hj5 : j < 2 := hj
  rcases (by omega : j = 0 ∨ j = 1) with rfl | rfl <;> rfl
theorem rdT_three (w : World) (t : TypeId) (a b c : ByteArray) (H : Nat) (hH : w.heap.size = H) : RdTx (w.alloc (.cells #[.string a, .string b, .string c] t)) (.slice (some ⟨H, 0, none⟩) 3 3) [a, b, c] := by
  subst hH
  refine ⟨_, 3, rfl, Nat.le_refl _, fun _ => ⟨_, 0, rfl, by simp, fun j hj => ?_⟩⟩
  unfold World.cell?
  rw [heap_alloc_self]
  have hj5 : j < 3 := hj
  rcases (by omega : j = 0 ∨ j = 1 ∨ j = 2) with rfl | rfl | rfl <;> rfl
abbrev aB : ByteArray := ⟨#[97]⟩
abbrev bB : ByteArray := ⟨#[98]⟩
abbrev xB : ByteArray := ⟨#[120]⟩
abbrev yB : ByteArray := ⟨#[121]⟩
abbrev vB : ByteArray := ⟨#[118]⟩
abbrev iB : ByteArray := ⟨#[105]⟩
abbrev b0B : ByteArray := ⟨#[48]⟩
abbrev b1B : ByteArray := ⟨#[49]⟩
abbrev cyT : ByteArray := ⟨#[99, 121, 99, 108, 105, 99]⟩
abbrev fiT : ByteArray := ⟨#[102, 105, 120, 101, 100]⟩
abbrev syT : ByteArray := ⟨#[115, 121, 109, 98, 111, 108, 105, 99]⟩
abbrev alT : ByteArray := ⟨#[97, 108, 112, 104, 97, 98, 101, 116, 105, 99]⟩
abbrev nuT : ByteArray := ⟨#[110, 117, 109, 101, 114, 105, 99]⟩
abbrev adT : ByteArray := ⟨#[97, 100, 100, 105, 116, 105, 118, 101]⟩
abbrev exT : ByteArray := ⟨#[101, 120, 116, 101, 110, 100, 115]⟩
abbrev rD : DefD := ⟨⟨#[]⟩, adT, 1, [xB, vB, iB], [10, 5, 1], ⟨#[]⟩, ⟨#[]⟩, ⟨#[]⟩, ⟨#[]⟩, true, [], 0, ⟨#[]⟩, ⟨#[]⟩, ⟨#[]⟩, 0⟩
theorem sg1 : signsT (madeD alT [aB, bB]) 3 = ⟨#[97, 97]⟩ ∧ signsB (madeD alT [aB, bB]) 3 = true := by decide +kernel
theorem sg2 : signsT (madeD nuT [b0B, b1B]) 5 = ⟨#[49, 48, 49]⟩ ∧ signsB (madeD nuT [b0B, b1B]) 5 = true := by decide +kernel
theorem sg3 : signsT (madeD syT [xB, yB]) 4 = ⟨#[121, 121]⟩ ∧ signsB (madeD syT [xB, yB]) 4 = true := by decide +kernel
theorem sg4 : signsT (madeD cyT [xB, yB]) (-1) = ⟨#[120]⟩ ∧ signsB (madeD cyT [xB, yB]) (-1) = true := by decide +kernel
theorem sg5 : signsT (madeD fiT [xB, yB]) 3 = ⟨#[]⟩ ∧ signsB (madeD fiT [xB, yB]) 3 = false := by decide +kernel
theorem sg6 : signsT rD 27 = ⟨#[120, 120, 118, 105, 105]⟩ ∧ signsB rD 27 = true := by decide +kernel
theorem my1 : mayB rD = true := by decide +kernel
theorem my2 : mayB (madeD nuT [b0B]) = false := by decide +kernel
theorem in1 : inB (madeD cyT [xB]) (-5) = true := by decide +kernel
theorem in2 : inB (madeD syT [xB]) 0 = false := by decide +kernel
theorem us1 : usesB rD (-1) = true := by decide +kernel
theorem us2 : usesB (madeD cyT [xB]) (-1) = false := by decide +kernel
end Go.Proofs.Ytmepalmcfolneaa
