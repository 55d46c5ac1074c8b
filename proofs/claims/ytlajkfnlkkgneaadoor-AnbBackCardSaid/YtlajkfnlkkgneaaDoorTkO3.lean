
import Derived.Test.YtlajkfnlkkgneaaDoorTkO2
namespace Go.Proofs.YtlajkfnlkkgneaaDoor
open Go.RowKit
section
variable {g : Nat} {v : Value} {xs r : List Int} {w0 w : World}
end
end Go.Proofs.YtlajkfnlkkgneaaDoor
