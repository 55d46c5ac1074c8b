
import Derived.Test.YtjjkifhegfpceaaDoorTkX
namespace Go.Proofs.YtjjkifhegfpceaaDoor
open Go.RowKit

theorem cells_at : ∀ (l : List Tok) (k j : Nat) (h : k < l.length) (u : Value), (tcells l[k])[j]? = some u → (l.flatMap tcells)[k * 6 + j]? = some u
  | t :: l, 0, j, _, u, hu => by
    have hu2 : (tcells t)[j]? = some u := hu
    rw [List.flatMap_cons, Nat.zero_mul, Nat.zero_add, List.getElem?_append_left (List.getElem?_eq_some_iff.1 hu2).1]
    exact hu2
  | t :: l, k + 1, j, h, u, hu => by
    rw [List.flatMap_cons, show (k + 1) * 6 + j = 6 + (k * 6 + j) by omega, List.getElem?_append_right (by rw [tcells_len]; omega), tcells_len, Nat.add_sub_cancel_left]
    exact cells_at l k j (by simpa using h) u hu

/-- The k-th token's cells. -/
def CellsAt (w : World) (b k : Nat) (t : Tok) : Prop :=
  w.cell? ⟨b, k * 6, none⟩ = some (.int .i64 t.kind) ∧ w.cell? ⟨b, k * 6 + 1, none⟩ = some (.string t.text) ∧ w.cell? ⟨b, k * 6 + 2, none⟩ = some (.int .i64 t.int) ∧
  w.cell? ⟨b, k * 6 + 3, none⟩ = some (.bool t.whole) ∧ w.cell? ⟨b, k * 6 + 4, none⟩ = some (.bool t.sign) ∧ w.cell? ⟨b, k * 6 + 5, none⟩ = some (.bool t.id)
theorem cellsAt_of {w : World} {b : Nat} {l : List Tok} (hc : ∀ j u, (l.flatMap tcells)[j]? = some u → w.cell? ⟨b, j, none⟩ = some u) {k : Nat} (h : k < l.length) : CellsAt w b k l[k] :=
  ⟨hc _ _ (cells_at l k 0 h _ rfl), hc _ _ (cells_at l k 1 h _ rfl), hc _ _ (cells_at l k 2 h _ rfl), hc _ _ (cells_at l k 3 h _ rfl), hc _ _ (cells_at l k 4 h _ rfl), hc _ _ (cells_at l k 5 h _ rfl)⟩

end Go.Proofs.YtjjkifhegfpceaaDoor
