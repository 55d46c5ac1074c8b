
import Derived.Test.YtfggpenfdfklkaaGreatRxJ
namespace Go.Proofs.YtfggpenfdfklkaaGreat
open Go.RowKit
theorem RulesEach_any (w : World) (xs : List Int) (v1 : Value) (hv1 : Rd .i64 w v1 xs) (_hwf : ∀ x ∈ xs, (Lit.int .i64 x).wf = true) (hm1 : xs.length ≤ maxLen) (ys : List Int) (v2 : Value) (hv2 : Rd .i64 w v2 ys) (_hwf2 : ∀ x ∈ ys, (Lit.int .i64 x).wf = true) (hm2 : ys.length ≤ maxLen) :
    Calls Tryz.prog 4 #[v1, v2] w fun e w' => e = .returned (.bool true) ∧ Below w.heap.size w w' := by
  unfold maxLen at hm1 hm2
  by_cases h : 30 < xs.length ∨ 40 < ys.length
  · exact each_out w xs ys v1 v2 hv1 hv2 (by omega) (by omega) h
  · exact each_main w xs ys v1 v2 hv1 hv2 (by omega) (by omega)
end Go.Proofs.YtfggpenfdfklkaaGreat
