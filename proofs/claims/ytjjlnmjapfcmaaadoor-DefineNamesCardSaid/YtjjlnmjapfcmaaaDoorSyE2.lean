
import Derived.Test.YtjjlnmjapfcmaaaDoorSyE
namespace Go.Proofs.YtjjlnmjapfcmaaaDoor
open Go.RowKit
set_option maxRecDepth 100000 in
set_option maxHeartbeats 3200000 in
theorem may_3 (w : World) (d : DefD) (sv wv rv : Value) (h : DefR w d sv wv rv) (H1 : Hid (symsB d = true)) (H2 : Hid (textsB d = true)) (_p0 : ¬ 0 ≤ d.pad) (d0 : decide (0 ≤ d.pad) = false) (HF : Hid (false = mayB d)) :
    Calls Tryd.prog 22 #[defV d sv wv rv] w fun e w' => e = .returned (.bool (mayB d)) ∧ Below w.heap.size w w' := by
  have HR := Lib.hid h
  obtain ⟨⟨a1, c1, rfl, _, _⟩, ⟨a2, c2, rfl, _, _⟩, ⟨a3, c3, rfl, _, _⟩, ls, lw, lr⟩ := h
  go_enter Tryd.func22, Tryd.ntmps22
  go_wp2_with (first | (go_at_call 43; (with_reducible refine (symbolsMay_any _ d _ _ _ (HR.out.below (below_al _ _))).mono ?_); rintro e w1 ⟨rfl, hb1⟩; rw [H1.out]; obtain ⟨hc1, hf1⟩ := keepB hb1; have hz1 : w.heap.size < w1.heap.size := by have := hb1.size; simp at this; omega) | (go_at_call 44; (with_reducible refine (textsMay_any _ d _ _ _ ((HR.out.below (below_al _ _)).below hb1)).mono ?_); rintro e w2 ⟨rfl, hb2⟩; rw [H2.out]; obtain ⟨hc2, hf2⟩ := keepB hb2))
  go_ret
  exact ⟨ret_bool HF.out, below_seq (below_al _ _) (hb1.trans (hb2.mono hb1.size))⟩
set_option maxRecDepth 100000 in
set_option maxHeartbeats 3200000 in
theorem may_4 (w : World) (d : DefD) (sv wv rv : Value) (h : DefR w d sv wv rv) (H1 : Hid (symsB d = true)) (H2 : Hid (textsB d = true)) (p0 : 0 ≤ d.pad) (_p1 : ¬ d.pad ≤ 200) (d1 : decide (d.pad ≤ 200) = false) (HF : Hid (false = mayB d)) :
    Calls Tryd.prog 22 #[defV d sv wv rv] w fun e w' => e = .returned (.bool (mayB d)) ∧ Below w.heap.size w w' := by
  have HR := Lib.hid h
  obtain ⟨⟨a1, c1, rfl, _, _⟩, ⟨a2, c2, rfl, _, _⟩, ⟨a3, c3, rfl, _, _⟩, ls, lw, lr⟩ := h
  go_enter Tryd.func22, Tryd.ntmps22
  go_wp2_with (first | (go_at_call 43; (with_reducible refine (symbolsMay_any _ d _ _ _ (HR.out.below (below_al _ _))).mono ?_); rintro e w1 ⟨rfl, hb1⟩; rw [H1.out]; obtain ⟨hc1, hf1⟩ := keepB hb1; have hz1 : w.heap.size < w1.heap.size := by have := hb1.size; simp at this; omega) | (go_at_call 44; (with_reducible refine (textsMay_any _ d _ _ _ ((HR.out.below (below_al _ _)).below hb1)).mono ?_); rintro e w2 ⟨rfl, hb2⟩; rw [H2.out]; obtain ⟨hc2, hf2⟩ := keepB hb2))
  go_ret
  exact ⟨ret_bool HF.out, below_seq (below_al _ _) (hb1.trans (hb2.mono hb1.size))⟩
end Go.Proofs.YtjjlnmjapfcmaaaDoor
namespace Go.Proofs.YtjjlnmjapfcmaaaDoor
open Go.RowKit
set_option maxRecDepth 100000 in
set_option maxHeartbeats 3200000 in
theorem may_5 (w : World) (d : DefD) (sv wv rv : Value) (h : DefR w d sv wv rv) (X : Bool) (H1 : Hid (symsB d = true)) (H2 : Hid (textsB d = true)) (p0 : 0 ≤ d.pad) (p1 : d.pad ≤ 200) (H3 : Hid (rangeB d.rng = X)) (HF : Hid (X = mayB d)) :
    Calls Tryd.prog 22 #[defV d sv wv rv] w fun e w' => e = .returned (.bool (mayB d)) ∧ Below w.heap.size w w' := by
  have HR := Lib.hid h
  obtain ⟨⟨a1, c1, rfl, _, _⟩, ⟨a2, c2, rfl, _, _⟩, ⟨a3, c3, rfl, _, _⟩, ls, lw, lr⟩ := h
  go_enter Tryd.func22, Tryd.ntmps22
  go_wp2_with (first | (go_at_call 43; (with_reducible refine (symbolsMay_any _ d _ _ _ (HR.out.below (below_al _ _))).mono ?_); rintro e w1 ⟨rfl, hb1⟩; rw [H1.out]; obtain ⟨hc1, hf1⟩ := keepB hb1; have hz1 : w.heap.size < w1.heap.size := by have := hb1.size; simp at this; omega) | (go_at_call 44; (with_reducible refine (textsMay_any _ d _ _ _ ((HR.out.below (below_al _ _)).below hb1)).mono ?_); rintro e w2 ⟨rfl, hb2⟩; rw [H2.out]; obtain ⟨hc2, hf2⟩ := keepB hb2) | (go_at_call 45; (with_reducible refine (rangeMay_any _ _ _ (((HR.out.below (below_al _ _)).below hb1).below hb2).rng (by omega)).mono ?_); rintro e w3 ⟨rfl, hb3⟩; rw [H3.out]))
  go_ret
  exact ⟨ret_bool HF.out, below_seq (below_al _ _) (hb1.trans ((hb2.trans (hb3.mono hb2.size)).mono hb1.size))⟩
end Go.Proofs.YtjjlnmjapfcmaaaDoor
namespace Go.Proofs.YtjjlnmjapfcmaaaDoor
open Go.RowKit
theorem may_any (w : World) (d : DefD) (sv wv rv : Value) (h : DefR w d sv wv rv) :
    Calls Tryd.prog 22 #[defV d sv wv rv] w fun e w' => e = .returned (.bool (mayB d)) ∧ Below w.heap.size w w' := by
  cases h1 : symsB d
  · exact may_1 w d sv wv rv h h1 (show _ = _ by unfold mayB; rw [h1]; rfl)
  · cases h2 : textsB d
    · exact may_2 w d sv wv rv h h1 h2 (show _ = _ by unfold mayB; rw [h1, h2]; rfl)
    · by_cases p0 : 0 ≤ d.pad
      · have d0 := decide_eq_true p0
        by_cases p1 : d.pad ≤ 200
        · have d1 := decide_eq_true p1
          exact may_5 w d sv wv rv h (rangeB d.rng) h1 h2 p0 p1 rfl (show _ = _ by unfold mayB; rw [h1, h2, d0, d1]; rfl)
        · have d1 := decide_eq_false p1
          exact may_4 w d sv wv rv h h1 h2 p0 p1 d1 (show _ = _ by unfold mayB; rw [h1, h2, d0, d1]; rfl)
      · have d0 := decide_eq_false p0
        exact may_3 w d sv wv rv h h1 h2 p0 d0 (show _ = _ by unfold mayB; rw [h1, h2, d0]; rfl)
end Go.Proofs.YtjjlnmjapfcmaaaDoor
