
import Derived.Test.YtlkfibjbfnaagaaDoorDmD
import Derived.Deep.RegionHeld3
import Derived.Deep.AppendLies
import Derived.Deep.RegionLaw
import Derived.Deep.DrawnRows
namespace Go.Proofs.YtlkfibjbfnaagaaDoor
open Go.RowKit Go.Maps Go.WideMaps
attribute [local go_sem ↓] Go.wp_at_zero Go.wp_at_succ
theorem cells_four {w : World} {b : Nat} {x y z t : Value} {T : TypeId} (h : w.heap[b]? = some (.cells #[x, y, z, t] T (0, 0))) : w.cell? ⟨b, 0, none⟩ = some x ∧ w.cell? ⟨b, 1, none⟩ = some y ∧ w.cell? ⟨b, 2, none⟩ = some z ∧ w.cell? ⟨b, 3, none⟩ = some t := by
  refine ⟨by simp [World.cell?, h], by simp [World.cell?, h], by simp [World.cell?, h], by simp [World.cell?, h]⟩
theorem froz_four {w : World} {b o : Nat} {x y z t : Value} {T : TypeId} (h : w.heap[b]? = some (.cells #[x, y, z, t] T (0, 0))) : w.frozen? ⟨b, o, none⟩ = false := by
  simp [World.frozen?, h]
theorem zero_kept {W w2 : World} {x y z t : Value} {T : TypeId} (hb : Below (W.alloc (.cells #[x, y, z, t] T)).heap.size (W.alloc (.cells #[x, y, z, t] T)) w2) :
    (w2.cell? ⟨W.heap.size, 0, none⟩ = some x ∧ w2.cell? ⟨W.heap.size, 1, none⟩ = some y ∧ w2.cell? ⟨W.heap.size, 2, none⟩ = some z ∧ w2.cell? ⟨W.heap.size, 3, none⟩ = some t) ∧ (w2.frozen? ⟨W.heap.size, 0, none⟩ = false ∧ w2.frozen? ⟨W.heap.size, 1, none⟩ = false ∧ w2.frozen? ⟨W.heap.size, 2, none⟩ = false ∧ w2.frozen? ⟨W.heap.size, 3, none⟩ = false) := by
  have hq : w2.heap[W.heap.size]? = some (.cells #[x, y, z, t] T (0, 0)) := (hb.block _ (by simp)).trans (heap_alloc_self W _)
  exact ⟨cells_four hq, froz_four hq, froz_four hq, froz_four hq, froz_four hq⟩
theorem zero_keptd {W w2 : World} {x y z t : Value} {T : TypeId} (hb : Below (W.alloc (.cells #[x, y, z, t] T)).drew.heap.size (W.alloc (.cells #[x, y, z, t] T)).drew w2) :
    (w2.cell? ⟨W.heap.size, 0, none⟩ = some x ∧ w2.cell? ⟨W.heap.size, 1, none⟩ = some y ∧ w2.cell? ⟨W.heap.size, 2, none⟩ = some z ∧ w2.cell? ⟨W.heap.size, 3, none⟩ = some t) ∧ (w2.frozen? ⟨W.heap.size, 0, none⟩ = false ∧ w2.frozen? ⟨W.heap.size, 1, none⟩ = false ∧ w2.frozen? ⟨W.heap.size, 2, none⟩ = false ∧ w2.frozen? ⟨W.heap.size, 3, none⟩ = false) :=
  zero_kept ⟨hb.os, hb.tape, hb.output, hb.size, hb.block⟩
theorem own_sl {B : Nat} {w : World} {e : TypeId} {size n : Nat} {v : Value} {xs : List Value} (h : w.ownsRow B e size v n xs) : ∃ a n c, v = .slice a n c := by
  rcases h.2 with ⟨h1, _⟩ | ⟨g, cap, cur, hv, _⟩
  · exact ⟨_, _, _, h1⟩
  · exact ⟨_, _, _, hv⟩
theorem OwnA.sl {B : Nat} {w : World} {v : Value} {l : List (ByteArray × ByteArray)} (h : OwnA B w v l) : ∃ a n c, v = .slice a n c := own_sl h
theorem drew_al {W : World} {o : Obj} : Below W.heap.size W (W.alloc o).drew := (below_al' W o).drew
theorem size_to {W w2 : World} (h : Below W.drew.heap.size W.drew w2) : W.heap.size ≤ w2.heap.size := h.size
theorem new_to {W w2 : World} {o : Obj} (h : Below W.drew.heap.size W.drew w2) : Below W.heap.size W (w2.alloc o) :=
  (dm_seq ((Below.refl W.heap.size W).drew) h).alloc h.size _
theorem zero_setd {W w2 : World} {x y z t a b c d : Value} {T : TypeId} (hb : Below (W.alloc (.cells #[x, y, z, t] T)).drew.heap.size (W.alloc (.cells #[x, y, z, t] T)).drew w2) :
    ((((w2.setCell ⟨W.heap.size, 0, none⟩ a).setCell ⟨W.heap.size, 1, none⟩ b).setCell ⟨W.heap.size, 2, none⟩ c).setCell ⟨W.heap.size, 3, none⟩ d).heap[W.heap.size]? = some (.cells #[a, b, c, d] T (0, 0)) ∧ Below W.heap.size W ((((w2.setCell ⟨W.heap.size, 0, none⟩ a).setCell ⟨W.heap.size, 1, none⟩ b).setCell ⟨W.heap.size, 2, none⟩ c).setCell ⟨W.heap.size, 3, none⟩ d) := by
  have hq : w2.heap[W.heap.size]? = some (.cells #[x, y, z, t] T (0, 0)) := (hb.block _ (by simp)).trans (heap_alloc_self W _)
  have h0 := heap_setCell_same w2 W.heap.size 0 _ _ a hq
  have h1 := heap_setCell_same _ W.heap.size 1 _ _ b h0
  have h2 := heap_setCell_same _ W.heap.size 2 _ _ c h1
  have h3 := heap_setCell_same _ W.heap.size 3 _ _ d h2
  refine ⟨by rw [h3]; rfl, ?_⟩
  exact (((((dm_seq drew_al hb).setCell (Nat.le_refl _) _).setCell (Nat.le_refl _) _).setCell (Nat.le_refl _) _).setCell (Nat.le_refl _) _)
theorem far1 {w2 : World} {b B j o : Nat} {v a : Value} (h : w2.cell? ⟨b, j, none⟩ = some v) (hne : b ≠ B) : (w2.setCell ⟨B, o, none⟩ a).cell? ⟨b, j, none⟩ = some v := by
  unfold World.cell? at h ⊢
  rw [Below.heap_setCell w2 ⟨B, o, none⟩ a b (fun e => hne e)]
  exact h
theorem far4 {w2 : World} {b B j : Nat} {v x y z t : Value} (h : w2.cell? ⟨b, j, none⟩ = some v) (hne : b ≠ B) : ((((w2.setCell ⟨B, 0, none⟩ x).setCell ⟨B, 1, none⟩ y).setCell ⟨B, 2, none⟩ z).setCell ⟨B, 3, none⟩ t).cell? ⟨b, j, none⟩ = some v :=
  far1 (far1 (far1 (far1 h hne) hne) hne) hne
def PlainPost (w : World) (R : RawD) (e : Ending) (w' : World) : Prop := ∃ v, e = .returned (rawV R v) ∧ OwnA w.heap.size w' v R.attrs ∧ Below w.heap.size w w'
set_option maxRecDepth 100000 in
set_option maxHeartbeats 3200000 in
theorem plain_raw {w : World} {r : RawD} {u : Value} (h : RdA w u r.attrs) (hl : r.attrs.length ≤ 100000000) (hz : ∀ a ∈ r.attrs, a.1.size ≤ 1000000000) (ht : r.tag.size ≤ 1000000000) :
    Calls Tryd.prog 45 #[rawV r u] w (PlainPost w (plainS r)) := by
  obtain ⟨R, hR⟩ : ∃ R, plainS r = R := ⟨_, rfl⟩
  rw [hR]
  have HR := Lib.hid hR
  have HF := fun {w2 : World} (hb : Below w.heap.size w w2) => Lib.hid (firsts_any (h.below hb) hl hz)
  clear hR
  obtain ⟨p, tg, tx, ats⟩ := r
  simp only at HF ht h hl hz ⊢
  have hB0 := below_al' w (.cells #[.int .i64 p, .string tg, .string tx, u] 37)
  have hB1 := dm_seq hB0 (below_al' _ (.cells #[.int .i64 0, .string ⟨#[]⟩, .string ⟨#[]⟩, .slice none 0 0] 37))
  have x0 : ((w.alloc (.cells #[.int .i64 p, .string tg, .string tx, u] 37)).alloc (.cells #[.int .i64 0, .string ⟨#[]⟩, .string ⟨#[]⟩, .slice none 0 0] 37)).heap[w.heap.size]? = some (.cells #[.int .i64 p, .string tg, .string tx, u] 37 (0, 0)) := by
    rw [Below.heap_alloc _ _ _ (by simp)]; exact heap_alloc_self _ _
  have x1 : ((w.alloc (.cells #[.int .i64 p, .string tg, .string tx, u] 37)).alloc (.cells #[.int .i64 0, .string ⟨#[]⟩, .string ⟨#[]⟩, .slice none 0 0] 37)).heap[w.heap.size + 1]? = some (.cells #[.int .i64 0, .string ⟨#[]⟩, .string ⟨#[]⟩, .slice none 0 0] 37 (0, 0)) := by
    have := heap_alloc_self (w.alloc (.cells #[.int .i64 p, .string tg, .string tx, u] 37)) (.cells #[.int .i64 0, .string ⟨#[]⟩, .string ⟨#[]⟩, .slice none 0 0] 37)
    simpa using this
  obtain ⟨S, hS⟩ : ∃ S, lowS tg = S := ⟨_, rfl⟩
  have HS := Lib.hid hS
  clear hS
  go_enter Tryd.func45, Tryd.ntmps45
  go_upto_region 1 with fail
  generalize (w.alloc (.cells #[.int .i64 p, .string tg, .string tx, u] 37)).alloc (.cells #[.int .i64 0, .string ⟨#[]⟩, .string ⟨#[]⟩, .slice none 0 0] 37) = W at *
  obtain ⟨y0, y1, y2, y3⟩ := cells_four x0
  have hW0 : w.heap.size < W.heap.size := (Array.getElem?_eq_some_iff.1 x0).1
  have hW1 : w.heap.size + 1 < W.heap.size := (Array.getElem?_eq_some_iff.1 x1).1
  have i0 := fun ob => cell_alloc' (ob := ob) y0 hW0
  have i1 := fun ob => cell_alloc' (ob := ob) y1 hW0
  have i2 := fun ob => cell_alloc' (ob := ob) y2 hW0
  have hWne : w.heap.size ≠ W.heap.size := by omega
  go_cut [3] (fun pv wx => ∃ (nb : Nat) (w3 : World), w3 = wx ∧ pv = .pointer (some ⟨nb, 0, none⟩) ∧ W.heap.size ≤ nb ∧ w3.heap[nb]? = some (.cells #[.int .i64 p, .string S, .string tx, .slice none 0 0] 37 (0, 0)) ∧ Below W.heap.size W w3)
  case first =>
    go_region_held3 (fun w' => w'.cell? ⟨w.heap.size, 0, none⟩ = some (.int .i64 p) ∧ w'.cell? ⟨w.heap.size, 1, none⟩ = some (.string tg) ∧ w'.cell? ⟨w.heap.size, 2, none⟩ = some (.string tx)) (first | go_keep | exact ⟨far4 k0 hWne, far4 k1 hWne, far4 k2 hWne⟩)
      ((go_at_call 51; refine (lower_any tg _ ht).mono ?_; rintro e w2 ⟨rfl, hb2⟩; rw [HS.out]; have k0 : w2.cell? ⟨w.heap.size, 0, none⟩ = some (.int .i64 p) := (hb2.cell (p := ⟨w.heap.size, 0, none⟩) (by first | exact hW0 | (simp; omega))).trans (by first | exact y0 | exact cell_alloc' y0 hW0); have k1 : w2.cell? ⟨w.heap.size, 1, none⟩ = some (.string tg) := (hb2.cell (p := ⟨w.heap.size, 1, none⟩) (by first | exact hW0 | (simp; omega))).trans (by first | exact y1 | exact cell_alloc' y1 hW0); have k2 : w2.cell? ⟨w.heap.size, 2, none⟩ = some (.string tx) := (hb2.cell (p := ⟨w.heap.size, 2, none⟩) (by first | exact hW0 | (simp; omega))).trans (by first | exact y2 | exact cell_alloc' y2 hW0); (first | (have hzk := zero_keptd hb2; obtain ⟨⟨m0, m1, m2, m3⟩, mf0, mf1, mf2, mf3⟩ := hzk) | (have hzk := zero_kept hb2; obtain ⟨⟨m0, m1, m2, m3⟩, mf0, mf1, mf2, mf3⟩ := hzk) | skip); obtain ⟨n0, n1, n2, n3⟩ := cells_four (heap_alloc_self w2 (.cells #[.int .i64 0, .string ⟨#[]⟩, .string ⟨#[]⟩, .slice none 0 0] 37)); have g0 := froz_four (o := 0) (heap_alloc_self w2 (.cells #[.int .i64 0, .string ⟨#[]⟩, .string ⟨#[]⟩, .slice none 0 0] 37)); have g1 := froz_four (o := 1) (heap_alloc_self w2 (.cells #[.int .i64 0, .string ⟨#[]⟩, .string ⟨#[]⟩, .slice none 0 0] 37)); have g2 := froz_four (o := 2) (heap_alloc_self w2 (.cells #[.int .i64 0, .string ⟨#[]⟩, .string ⟨#[]⟩, .slice none 0 0] 37)); have g3 := froz_four (o := 3) (heap_alloc_self w2 (.cells #[.int .i64 0, .string ⟨#[]⟩, .string ⟨#[]⟩, .slice none 0 0] 37))))
    all_goals
      go_wp2
      go_meet
      case rel => first | exact ⟨_, _, rfl, rfl, Nat.le_refl _, zero_setd hb2⟩ | exact ⟨_, _, rfl, rfl, size_to hb2, heap_alloc_self _ _, new_to hb2⟩
  case rest =>
  clear i0 i1 i2 y0 y1 y2
  obtain ⟨nb, w3, rfl, rfl, hnb, hx, hbx⟩ := hcut
  obtain ⟨q0, q1, q2, q3⟩ := cells_four hx
  have f3 := froz_four (o := 3) hx
  have hnl : nb < w3.heap.size := (Array.getElem?_eq_some_iff.1 hx).1
  have y3' := (hbx.cell (p := ⟨w.heap.size, 3, none⟩) hW0).trans y3
  have hb3 := dm_seq hB1 hbx
  have hr3 : w3.heap[w.heap.size + 1]? = some (.cells #[.int .i64 0, .string ⟨#[]⟩, .string ⟨#[]⟩, .slice none 0 0] 37 (0, 0)) := (hbx.block _ hW1).trans x1
  by_cases he : (S.toList == []) = true
  · have hne : (!S.toList.isEmpty) = false := by rw [beq_iff_eq] at he; rw [he]; rfl
    have hnl2 : S.toList = [] := by simpa using he
    have HR2 := Lib.hid (show (⟨p, S, tx, []⟩ : RawD) = R by rw [← HR.out]; unfold plainS emptyB; simp only; rw [HS.out, if_pos he])
    obtain ⟨r0, r1, r2, r3⟩ := cells_four hr3
    have g0 := froz_four (o := 0) hr3
    have g1 := froz_four (o := 1) hr3
    have g2 := froz_four (o := 2) hr3
    have g3 := froz_four (o := 3) hr3
    have hrl : w.heap.size + 1 < w3.heap.size := (Array.getElem?_eq_some_iff.1 hr3).1
    clear x0 x1 hx hr3 he hnl2
    go_wp2
    refine bodyPost_ret (v := rawV ⟨p, S, tx, []⟩ (.slice none 0 0)) ?_ rfl ?_
    · simp [results, Tryd.results45, go_sem, r0, r1, r2, r3]
    · refine ⟨_, by rw [← HR2.out], by rw [← HR2.out]; exact World.ownsRow_nil _ _ _ _, ?_⟩
      exact ((((hb3.setCell (Nat.le_succ _) _).setCell (Nat.le_succ _) _).setCell (Nat.le_succ _) _).setCell (Nat.le_succ _) _)
  · have he : (S.toList == []) = false := by simpa using he
    have hne : (!S.toList.isEmpty) = true := by cases h7 : S.toList with | nil => rw [h7] at he; cases he | cons _ _ => rfl
    obtain ⟨FA, hFA⟩ : ∃ FA, firstsFrom [] ats = FA := ⟨_, rfl⟩
    have HR2 := Lib.hid (show (⟨p, S, tx, FA⟩ : RawD) = R by rw [← HR.out]; unfold plainS emptyB; simp only; rw [HS.out, if_neg (by rw [he]; decide), hFA])
    have HF3 := HF hb3
    rw [hFA] at HF3
    have hrl : w.heap.size + 1 < w3.heap.size := (Array.getElem?_eq_some_iff.1 hr3).1
    clear x0 x1 he hFA HF h
    go_wp2_with fail
    refine HF3.out.mono ?_
    rintro e w4 ⟨v4, rfl, ho4, hb4⟩
    obtain ⟨a4, n4, c4, rfl⟩ := ho4.sl
    have hx4 := (hb4.block nb hnl).trans hx
    have hr4 := (hb4.block (w.heap.size + 1) hrl).trans hr3
    obtain ⟨s0, s1, s2, s3⟩ := cells_four hx4
    have sf3 := froz_four (o := 3) hx4
    obtain ⟨r0, r1, r2, r3⟩ := cells_four hr4
    have g0 := froz_four (o := 0) hr4
    have g1 := froz_four (o := 1) hr4
    have g2 := froz_four (o := 2) hr4
    have g3 := froz_four (o := 3) hr4
    have hnl4 : nb < w4.heap.size := Nat.lt_of_lt_of_le hnl hb4.size
    have hrl4 : w.heap.size + 1 < w4.heap.size := Nat.lt_of_lt_of_le hrl hb4.size
    have hnr : ¬ w.heap.size + 1 = nb := by omega
    have hrn : ¬ nb = w.heap.size + 1 := by omega
    go_wp2
    refine bodyPost_ret (v := rawV ⟨p, S, tx, FA⟩ (.slice a4 n4 c4)) ?_ rfl ?_
    · simp [results, Tryd.results45, go_sem, r0, r1, r2, r3]
    · have hb34 := dm_seq hb3 hb4
      refine ⟨_, by rw [← HR2.out], ?_, ?_⟩
      · rw [← HR2.out]
        refine own_mono (B := w3.heap.size) ?_ hb3.size
        unfold OwnA at ho4 ⊢
        exact ownsRow_setCell_below (ownsRow_setCell_below (ownsRow_setCell_below (ownsRow_setCell_below (ownsRow_setCell_below ho4 (a := ⟨nb, 3, none⟩) hnl _) (a := ⟨w.heap.size + 1, 0, none⟩) hrl _) (a := ⟨w.heap.size + 1, 1, none⟩) hrl _) (a := ⟨w.heap.size + 1, 2, none⟩) hrl _) (a := ⟨w.heap.size + 1, 3, none⟩) hrl _
      · exact (((((hb34.setCell (by show w.heap.size ≤ nb; omega) _).setCell (Nat.le_succ _) _).setCell (Nat.le_succ _) _).setCell (Nat.le_succ _) _).setCell (Nat.le_succ _) _)
end Go.Proofs.YtlkfibjbfnaagaaDoor
