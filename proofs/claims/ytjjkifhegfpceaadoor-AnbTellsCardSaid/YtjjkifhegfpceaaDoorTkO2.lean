
import Derived.Test.YtjjkifhegfpceaaDoorTkN
namespace Go.Proofs.YtjjkifhegfpceaaDoor
open Go.RowKit
section
variable {g : Nat} {v : Value} {xs r : List Int} {w0 w : World}
end
end Go.Proofs.YtjjkifhegfpceaaDoor
