
import Derived.Test.YtmepalmcfolneaaSyE
namespace Go.Proofs.Ytmepalmcfolneaa
open Go.RowKit
set_option maxRecDepth 100000 in
set_option maxHeartbeats 3200000 in
theorem may_3 (w : World) (d : DefD) (sv wv rv : Value) (h : DefR w d sv wv rv) (H1 : Hid (symsB d = true)) (H2 : Hid (textsB d = true)) (_p0 : ¬ 0 ≤ d.pad) (d0 : decide (0 ≤ d.pad) = false) (HF : Hid (false = mayB d)) :
    Calls Try.prog 8 #[defV d sv wv rv] w fun e w' => e = .returned (.bool (mayB d)) ∧ Below w.heap.size w w' := by
  have HR := Lib.hid h
  obtain ⟨⟨a1, c1, rfl, _, _⟩, ⟨a2, c2, rfl, _, _⟩, ⟨a3, c3, rfl, _, _⟩, ls, lw, lr⟩ := h
  go_enter Try.func8, Try.ntmps8
  go_wp2_with (first | (go_at_call 15; (with_reducible refine (symbolsMay_any _ d _ _ _ (HR.out.below (below_al _ _))).mono ?_); rintro e w1 ⟨rfl, hb1⟩; rw [H1.out]; obtain ⟨hc1, hf1⟩ := keepB hb1; have hz1 : w.heap.size < w1.heap.size := by have := hb1.size; simp at this; omega) | (go_at_call 16; (with_reducible refine (textsMay_any _ d _ _ _ ((HR.out.below (below_al _ _)).below hb1)).mono ?_); rintro e w2 ⟨rfl, hb2⟩; rw [H2.out]; obtain ⟨hc2, hf2⟩ := keepB hb2))
  go_ret
  exact ⟨ret_bool HF.out, below_seq (below_al _ _) (hb1.trans (hb2.mono hb1.size))⟩
set_option maxRecDepth 100000 in
set_option maxHeartbeats 3200000 in
theorem may_4 (w : World) (d : DefD) (sv wv rv : Value) (h : DefR w d sv wv rv) (H1 : Hid (symsB d = true)) (H2 : Hid (textsB d = true)) (p0 : 0 ≤ d.pad) (_p1 : ¬ d.pad ≤ 200) (d1 : decide (d.pad ≤ 200) = false) (HF : Hid (false = mayB d)) :
    Calls Try.prog 8 #[defV d sv wv rv] w fun e w' => e = .returned (.bool (mayB d)) ∧ Below w.heap.size w w' := by
  have HR := Lib.hid h
  obtain ⟨⟨a1, c1, rfl, _, _⟩, ⟨a2, c2, rfl, _, _⟩, ⟨a3, c3, rfl, _, _⟩, ls, lw, lr⟩ := h
  go_enter Try.func8, Try.ntmps8
  go_wp2_with (first | (go_at_call 15; (with_reducible refine (symbolsMay_any _ d _ _ _ (HR.out.below (below_al _ _))).mono ?_); rintro e w1 ⟨rfl, hb1⟩; rw [H1.out]; obtain ⟨hc1, hf1⟩ := keepB hb1; have hz1 : w.heap.size < w1.heap.size := by have := hb1.size; simp at this; omega) | (go_at_call 16; (with_reducible refine (textsMay_any _ d _ _ _ ((HR.out.below (below_al _ _)).below hb1)).mono ?_); rintro e w2 ⟨rfl, hb2⟩; rw [H2.out]; obtain ⟨hc2, hf2⟩ := keepB hb2))
  go_ret
  exact ⟨ret_bool HF.out, below_seq (below_al _ _) (hb1.trans (hb2.mono hb1.size))⟩
end Go.Proofs.Ytmepalmcfolneaa
