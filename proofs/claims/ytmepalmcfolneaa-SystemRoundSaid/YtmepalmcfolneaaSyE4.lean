
import Derived.Test.YtmepalmcfolneaaSyE2
import Derived.Test.YtmepalmcfolneaaSyE3
namespace Go.Proofs.Ytmepalmcfolneaa
open Go.RowKit
theorem may_any (w : World) (d : DefD) (sv wv rv : Value) (h : DefR w d sv wv rv) :
    Calls Try.prog 8 #[defV d sv wv rv] w fun e w' => e = .returned (.bool (mayB d)) ∧ Below w.heap.size w w' := by
  cases h1 : symsB d
  · exact may_1 w d sv wv rv h h1 (show _ = _ by unfold mayB; rw [h1]; rfl)
  · cases h2 : textsB d
    · exact may_2 w d sv wv rv h h1 h2 (show _ = _ by unfold mayB; rw [h1, h2]; rfl)
    · by_cases p0 : 0 ≤ d.pad
      · have d0 := decide_eq_true p0
        by_cases p1 : d.pad ≤ 200
        · have d1 := decide_eq_true p1
          exact may_5 w d sv wv rv h (rangeB d.rng) h1 h2 p0 p1 rfl (show _ = _ by unfold mayB; rw [h1, h2, d0, d1]; rfl)
        · have d1 := decide_eq_false p1
          exact may_4 w d sv wv rv h h1 h2 p0 p1 d1 (show _ = _ by unfold mayB; rw [h1, h2, d0, d1]; rfl)
      · have d0 := decide_eq_false p0
        exact may_3 w d sv wv rv h h1 h2 p0 d0 (show _ = _ by unfold mayB; rw [h1, h2, d0]; rfl)
end Go.Proofs.Ytmepalmcfolneaa
