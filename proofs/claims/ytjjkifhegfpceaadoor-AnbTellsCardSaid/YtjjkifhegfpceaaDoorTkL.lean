
import Derived.Test.YtjjkifhegfpceaaDoorTkI
namespace Go.Proofs.YtjjkifhegfpceaaDoor
open Go.RowKit
section
variable {g : Nat} {v : Value} {xs r : List Int} {w0 w : World}
end
end Go.Proofs.YtjjkifhegfpceaaDoor
namespace Go.Proofs.YtjjkifhegfpceaaDoor
open Go.RowKit
section
variable {g : Nat} {v : Value} {xs r : List Int} {w0 w : World}
theorem wh_back (t : List Int) (h : (wh t).length < t.length) : (dp (t.length - (wh t).length - 1) t).length = (wh t).length + 1 := by rw [dp_len]; omega
theorem wh_same (t : List Int) (h : ¬ (wh t).length < t.length) : dp (t.length - (wh t).length - 1) t = wh t := by
  have h1 := wh_suf t
  have h2 := wh_len t
  rw [show t.length - (wh t).length - 1 = 0 by omega]
  exact (h1.eq_of_length (by omega)).symm

end
end Go.Proofs.YtjjkifhegfpceaaDoor
