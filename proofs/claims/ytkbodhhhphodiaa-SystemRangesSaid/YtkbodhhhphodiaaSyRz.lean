
import Derived.Test.YtkbodhhhphodiaaSyRa
import Derived.Test.YtkbodhhhphodiaaSyRb
import Derived.Test.YtkbodhhhphodiaaSyRc
import Derived.Test.YtkbodhhhphodiaaSyRd
import Derived.Test.YtkbodhhhphodiaaSyRe
namespace Go.Proofs.Ytkbodhhhphodiaa
open Go.RowKit
theorem SystemRanges_any (w : World) (k : Int) (_wk : (Lit.int .i64 k).wf = true) (n : Int) (_wn : (Lit.int .i64 n).wf = true) (xs : List Int) (v : Value) (h : Rd .i64 w v xs) (_wx : ∀ x ∈ xs, (Lit.int .i64 x).wf = true) (_hl : xs.length ≤ maxLen) (auto : Bool) :
    Calls Try.prog 6 #[.int .i64 k, .int .i64 n, v, .bool auto] w fun e w' => e = .returned (.bool true) ∧ Below w.heap.size w w' := by
  by_cases hb : 20 < xs.length
  · exact ranges_no k n xs v auto w h hb
  · have h0 := Int.emod_nonneg k (show (7 : Int) ≠ 0 by decide)
    have h1 := Int.emod_lt_of_pos k (show (0 : Int) < 7 by decide)
    obtain ⟨i, hi⟩ : ∃ i : Nat, k % 7 = (i : Int) := ⟨(k % 7).toNat, by omega⟩
    have hi7 : i < 7 := by omega
    have h20 : xs.length ≤ 20 := by omega
    by_cases hn : n < 0
    · by_cases g1 : i = 1
      · exact ranges_a k n xs v auto w h h20 i hi7 hi hn g1
      · by_cases g3 : 3 ≤ i
        · by_cases g5 : i ≤ 5
          · exact ranges_b k n xs v auto w h h20 i hi7 hi hn g1 g3 g5
          · exact ranges_c k n xs v auto w h h20 i hi7 hi hn g1 g3 g5
        · exact ranges_d k n xs v auto w h h20 i hi7 hi hn g1 g3
    · exact ranges_e k n xs v auto w h h20 i hi7 hi hn
end Go.Proofs.Ytkbodhhhphodiaa
