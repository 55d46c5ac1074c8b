import Derived.Test.YtgpiedifodkegaaGreatDoorSmA
import Derived.Test.YtgpiedifodkegaaGreatDoorAnD
namespace Go.Proofs.YtgpiedifodkegaaGreatDoor
open Go.RowKit
theorem ps_ok : PsOk parseS := fun _ _ _ _ h hl hx => parse_any h hl hx.top5
theorem selParse_any {P : Nat → Prop} {w : World} {v : Value} {l : List Nd} (h : RdN w P v l) (hl : szL l ≤ 100000000) (hx : txD l) (ht : TabL w) :
    Calls Tryz.prog 10 #[v] w (ParsePost w (selS parseS l)) := sparse_any ps_ok h hl hx ht
end Go.Proofs.YtgpiedifodkegaaGreatDoor
