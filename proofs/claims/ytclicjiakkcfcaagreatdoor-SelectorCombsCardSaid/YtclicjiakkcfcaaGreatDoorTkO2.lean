import Derived.Test.YtclicjiakkcfcaaGreatDoorTkI
namespace Go.Proofs.YtclicjiakkcfcaaGreatDoor
open Go.RowKit
section
variable {g b : Nat} {v : Value} {xs r : List Int} {w0 w : World} {t : Tok}
theorem TokB.kind (h : TokB b t w) (x : Int) : TokB b { t with kind := x } (w.setCell ⟨b, 0, none⟩ (.int .i64 x)) := by
 unfold TokB at h ⊢
 simp [World.setCell, Array.getElem?_modify, h]
end
end Go.Proofs.YtclicjiakkcfcaaGreatDoor
