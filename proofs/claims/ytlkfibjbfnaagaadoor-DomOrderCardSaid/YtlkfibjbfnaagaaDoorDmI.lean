
import Derived.Test.YtlkfibjbfnaagaaDoorDmH
namespace Go.Proofs.YtlkfibjbfnaagaaDoor
open Go.RowKit Go.Maps Go.WideMaps Go.Shelf
attribute [local go_sem ↓] Go.wp_at_zero Go.wp_at_succ
theorem cells_seven {w : World} {b : Nat} {x0 x1 x2 x3 x4 x5 x6 : Value} {T : TypeId} (h : w.heap[b]? = some (.cells #[x0, x1, x2, x3, x4, x5, x6] T (0, 0))) : w.cell? ⟨b, 0, none⟩ = some x0 ∧ w.cell? ⟨b, 1, none⟩ = some x1 ∧ w.cell? ⟨b, 2, none⟩ = some x2 ∧ w.cell? ⟨b, 3, none⟩ = some x3 ∧ w.cell? ⟨b, 4, none⟩ = some x4 ∧ w.cell? ⟨b, 5, none⟩ = some x5 ∧ w.cell? ⟨b, 6, none⟩ = some x6 := by
  refine ⟨by simp [World.cell?, h], by simp [World.cell?, h], by simp [World.cell?, h], by simp [World.cell?, h], by simp [World.cell?, h], by simp [World.cell?, h], by simp [World.cell?, h]⟩
theorem froz_any {w : World} {b o : Nat} {xs : Array Value} {T : TypeId} (h : w.heap[b]? = some (.cells xs T (0, 0))) : w.frozen? ⟨b, o, none⟩ = false := by
  simp [World.frozen?, h]
abbrev zerosD : Obj := .cells #[.int .i64 0, .string ⟨#[]⟩, .string ⟨#[]⟩, .slice none 0 0, .int .i64 0, .slice none 0 0, .int .i64 0] 69
theorem zero7_kept {W w2 : World} (hb : Below (W.alloc zerosD).heap.size (W.alloc zerosD) w2) : w2.heap[W.heap.size]? = some (.cells #[.int .i64 0, .string ⟨#[]⟩, .string ⟨#[]⟩, .slice none 0 0, .int .i64 0, .slice none 0 0, .int .i64 0] 69 (0, 0)) :=
  (hb.block _ (by simp)).trans (heap_alloc_self W _)
theorem zero7_keptd {W w2 : World} (hb : Below (W.alloc zerosD).drew.heap.size (W.alloc zerosD).drew w2) : w2.heap[W.heap.size]? = some (.cells #[.int .i64 0, .string ⟨#[]⟩, .string ⟨#[]⟩, .slice none 0 0, .int .i64 0, .slice none 0 0, .int .i64 0] 69 (0, 0)) :=
  zero7_kept ⟨hb.os, hb.tape, hb.output, hb.size, hb.block⟩
theorem far7 {w2 : World} {b B j : Nat} {v x0 x1 x2 x3 x4 x5 x6 : Value} (h : w2.cell? ⟨b, j, none⟩ = some v) (hne : b ≠ B) : (((((((w2.setCell ⟨B, 0, none⟩ x0).setCell ⟨B, 1, none⟩ x1).setCell ⟨B, 2, none⟩ x2).setCell ⟨B, 3, none⟩ x3).setCell ⟨B, 4, none⟩ x4).setCell ⟨B, 5, none⟩ x5).setCell ⟨B, 6, none⟩ x6).cell? ⟨b, j, none⟩ = some v :=
  far1 (far1 (far1 (far1 (far1 (far1 (far1 h hne) hne) hne) hne) hne) hne) hne
theorem zero7_all {W w2 : World} {a0 a1 a2 a3 a4 a5 a6 v : Value} {l : List (ByteArray × ByteArray)} (hb : Below (W.alloc zerosD).drew.heap.size (W.alloc zerosD).drew w2) (ho : OwnA (W.alloc zerosD).drew.heap.size w2 v l) :
    (((((((w2.setCell ⟨W.heap.size, 0, none⟩ a0).setCell ⟨W.heap.size, 1, none⟩ a1).setCell ⟨W.heap.size, 2, none⟩ a2).setCell ⟨W.heap.size, 3, none⟩ a3).setCell ⟨W.heap.size, 4, none⟩ a4).setCell ⟨W.heap.size, 5, none⟩ a5).setCell ⟨W.heap.size, 6, none⟩ a6).heap[W.heap.size]? = some (.cells #[a0, a1, a2, a3, a4, a5, a6] 69 (0, 0)) ∧
    OwnA W.heap.size (((((((w2.setCell ⟨W.heap.size, 0, none⟩ a0).setCell ⟨W.heap.size, 1, none⟩ a1).setCell ⟨W.heap.size, 2, none⟩ a2).setCell ⟨W.heap.size, 3, none⟩ a3).setCell ⟨W.heap.size, 4, none⟩ a4).setCell ⟨W.heap.size, 5, none⟩ a5).setCell ⟨W.heap.size, 6, none⟩ a6) v l ∧
    Below W.heap.size W (((((((w2.setCell ⟨W.heap.size, 0, none⟩ a0).setCell ⟨W.heap.size, 1, none⟩ a1).setCell ⟨W.heap.size, 2, none⟩ a2).setCell ⟨W.heap.size, 3, none⟩ a3).setCell ⟨W.heap.size, 4, none⟩ a4).setCell ⟨W.heap.size, 5, none⟩ a5).setCell ⟨W.heap.size, 6, none⟩ a6) := by
  have hq := zero7_keptd hb
  have h0 := heap_setCell_same w2 W.heap.size 0 _ _ a0 hq
  have h1 := heap_setCell_same _ W.heap.size 1 _ _ a1 h0
  have h2 := heap_setCell_same _ W.heap.size 2 _ _ a2 h1
  have h3 := heap_setCell_same _ W.heap.size 3 _ _ a3 h2
  have h4 := heap_setCell_same _ W.heap.size 4 _ _ a4 h3
  have h5 := heap_setCell_same _ W.heap.size 5 _ _ a5 h4
  have h6 := heap_setCell_same _ W.heap.size 6 _ _ a6 h5
  refine ⟨by rw [h6]; rfl, ?_, ?_⟩
  · have hsz : (W.alloc zerosD).drew.heap.size = W.heap.size + 1 := by simp
    rw [hsz] at ho
    refine own_mono (B := W.heap.size + 1) ?_ (Nat.le_succ _)
    unfold OwnA at ho ⊢
    have hlt : W.heap.size < W.heap.size + 1 := Nat.lt_succ_self _
    exact ownsRow_setCell_below (ownsRow_setCell_below (ownsRow_setCell_below (ownsRow_setCell_below (ownsRow_setCell_below (ownsRow_setCell_below (ownsRow_setCell_below ho (a := ⟨W.heap.size, 0, none⟩) hlt _) (a := ⟨W.heap.size, 1, none⟩) hlt _) (a := ⟨W.heap.size, 2, none⟩) hlt _) (a := ⟨W.heap.size, 3, none⟩) hlt _) (a := ⟨W.heap.size, 4, none⟩) hlt _) (a := ⟨W.heap.size, 5, none⟩) hlt _) (a := ⟨W.heap.size, 6, none⟩) hlt _
  · exact (((((((dm_seq drew_al hb).setCell (Nat.le_refl _) _).setCell (Nat.le_refl _) _).setCell (Nat.le_refl _) _).setCell (Nat.le_refl _) _).setCell (Nat.le_refl _) _).setCell (Nat.le_refl _) _).setCell (Nat.le_refl _) _
theorem new7_all {W w2 : World} {o : Array Value} {v : Value} {l : List (ByteArray × ByteArray)} (hb : Below W.drew.heap.size W.drew w2) (ho : OwnA W.drew.heap.size w2 v l) :
    (w2.alloc (.cells o 69)).heap[w2.heap.size]? = some (.cells o 69 (0, 0)) ∧ OwnA W.heap.size (w2.alloc (.cells o 69)) v l ∧ Below W.heap.size W (w2.alloc (.cells o 69)) :=
  ⟨heap_alloc_self _ _, World.ownsRow.alloc ho _, new_to hb⟩
end Go.Proofs.YtlkfibjbfnaagaaDoor
