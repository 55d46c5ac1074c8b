
import Derived.Test.YtjjlnmjapfcmaaaDoorSyB
namespace Go.Proofs.YtjjlnmjapfcmaaaDoor
open Go.RowKit
theorem keepB {W w1 : World} (hb : Below W.heap.size W w1) : (∀ b o, b < W.heap.size → w1.cell? ⟨b, o, none⟩ = W.cell? ⟨b, o, none⟩) ∧ (∀ b o, b < W.heap.size → w1.frozen? ⟨b, o, none⟩ = W.frozen? ⟨b, o, none⟩) :=
  ⟨fun b o h => hb.cell (p := ⟨b, o, none⟩) h, fun b o h => hb.frozen (p := ⟨b, o, none⟩) h⟩
theorem rdT_five (w : World) (t : TypeId) (a b c d e : ByteArray) (H : Nat) (hH : w.heap.size = H) : RdTx (w.alloc (.cells #[.string a, .string b, .string c, .string d, .string e] t)) (.slice (some ⟨H, 0, none⟩) 5 5) [a, b, c, d, e] := by
  subst hH
  refine ⟨_, 5, rfl, Nat.le_refl _, fun _ => ⟨_, 0, rfl, by simp, fun j hj => ?_⟩⟩
  unfold World.cell?
  rw [heap_alloc_self]
  have hj5 : j < 5 := hj
  rcases (by omega : j = 0 ∨ j = 1 ∨ j = 2 ∨ j = 3 ∨ j = 4) with rfl | rfl | rfl | rfl | rfl <;> rfl
set_option maxRecDepth 100000 in
set_option maxHeartbeats 1600000 in
theorem textsMay_any (w : World) (d : DefD) (sv wv rv : Value) (h : DefR w d sv wv rv) :
    Calls Tryd.prog 44 #[defV d sv wv rv] w fun e w' => e = .returned (.bool (textsB d)) ∧ Below w.heap.size w w' := by
  obtain ⟨hs, hw, hr, ls, lw, lr⟩ := h
  clear hr lr hw lw
  have HS := Lib.hid hs
  obtain ⟨a1, c1, rfl, hs1, hs2⟩ := hs
  clear hs1 hs2
  unfold defV
  cases h1 : shortB d.syms
  · have HF : Hid (textsB d = false) := by
      show _ = _
      unfold textsB
      rw [h1]
      rfl
    have H1 := Lib.hid h1
    clear h1
    go_enter Tryd.func44, Tryd.ntmps44
    go_wp2_with (go_at_call 68; refine (short_any _ _ _ (HS.out.below (below_al _ _)) (by omega)).mono ?_; rintro e w1 ⟨rfl, rfl⟩; rw [H1.out])
    go_ret
    exact ⟨ret_bool HF.out.symm, below_al _ _⟩
  · have HF : Hid (textsB d = shortB [d.pre, d.suf, d.neg0, d.neg1, d.psign]) := by
      show _ = _
      unfold textsB
      rw [h1]
      rfl
    have H1 := Lib.hid h1
    clear h1
    generalize hX : shortB [d.pre, d.suf, d.neg0, d.neg1, d.psign] = X at *
    have HX := Lib.hid hX
    clear hX
    go_enter Tryd.func44, Tryd.ntmps44
    go_wp2_with (first | (go_at_call 68; (with_reducible refine (short_any _ _ _ (HS.out.below (below_al _ _)) (by omega)).mono ?_); rintro e w1 ⟨rfl, rfl⟩; rw [H1.out]) | (go_at_call 68; refine (short_any [d.pre, d.suf, d.neg0, d.neg1, d.psign] _ _ (rdT_five _ _ _ _ _ _ _ _ (by simp)) (by simp)).mono ?_; rintro e w1 ⟨rfl, rfl⟩; rw [HX.out]))
    go_ret
    exact ⟨ret_bool HF.out.symm, (below_al _ _).alloc (by simp) _⟩
set_option maxRecDepth 100000 in
set_option maxHeartbeats 3200000 in
theorem may_1 (w : World) (d : DefD) (sv wv rv : Value) (h : DefR w d sv wv rv) (H1 : Hid (symsB d = false)) (HF : Hid (false = mayB d)) :
    Calls Tryd.prog 22 #[defV d sv wv rv] w fun e w' => e = .returned (.bool (mayB d)) ∧ Below w.heap.size w w' := by
  have HR := Lib.hid h
  obtain ⟨⟨a1, c1, rfl, _, _⟩, ⟨a2, c2, rfl, _, _⟩, ⟨a3, c3, rfl, _, _⟩, ls, lw, lr⟩ := h
  go_enter Tryd.func22, Tryd.ntmps22
  go_wp2_with ((go_at_call 43; (with_reducible refine (symbolsMay_any _ d _ _ _ (HR.out.below (below_al _ _))).mono ?_); rintro e w1 ⟨rfl, hb1⟩; rw [H1.out]; obtain ⟨hc1, hf1⟩ := keepB hb1; have hz1 : w.heap.size < w1.heap.size := by have := hb1.size; simp at this; omega))
  go_ret
  exact ⟨ret_bool HF.out, below_seq (below_al _ _) hb1⟩
set_option maxRecDepth 100000 in
set_option maxHeartbeats 3200000 in
theorem may_2 (w : World) (d : DefD) (sv wv rv : Value) (h : DefR w d sv wv rv) (H1 : Hid (symsB d = true)) (H2 : Hid (textsB d = false)) (HF : Hid (false = mayB d)) :
    Calls Tryd.prog 22 #[defV d sv wv rv] w fun e w' => e = .returned (.bool (mayB d)) ∧ Below w.heap.size w w' := by
  have HR := Lib.hid h
  obtain ⟨⟨a1, c1, rfl, _, _⟩, ⟨a2, c2, rfl, _, _⟩, ⟨a3, c3, rfl, _, _⟩, ls, lw, lr⟩ := h
  go_enter Tryd.func22, Tryd.ntmps22
  go_wp2_with (first | (go_at_call 43; (with_reducible refine (symbolsMay_any _ d _ _ _ (HR.out.below (below_al _ _))).mono ?_); rintro e w1 ⟨rfl, hb1⟩; rw [H1.out]; obtain ⟨hc1, hf1⟩ := keepB hb1; have hz1 : w.heap.size < w1.heap.size := by have := hb1.size; simp at this; omega) | (go_at_call 44; (with_reducible refine (textsMay_any _ d _ _ _ ((HR.out.below (below_al _ _)).below hb1)).mono ?_); rintro e w2 ⟨rfl, hb2⟩; rw [H2.out]; obtain ⟨hc2, hf2⟩ := keepB hb2))
  go_ret
  exact ⟨ret_bool HF.out, below_seq (below_al _ _) (hb1.trans (hb2.mono hb1.size))⟩
end Go.Proofs.YtjjlnmjapfcmaaaDoor
