
import Derived.Test.YtkbodhhhphodiaaSyX
import Derived.Test.YtkbodhhhphodiaaSyP2
namespace Go.Proofs.Ytkbodhhhphodiaa
open Go.RowKit
theorem fqI {w w' : World} {d : DefD} {sv wv rv : Value} (h : DefI w d sv wv rv) (hb : Below w.heap.size w w') : DefI w' d sv wv rv :=
  ⟨h.syms.below hb, h.wts.below hb, h.rng.below hb, h.ls, h.lw, h.lr, h.hf, h.hw⟩
set_option maxRecDepth 100000 in
set_option maxHeartbeats 3200000 in
theorem forms_1 (w : World) (d : DefD) (sv wv rv : Value) (h : DefI w d sv wv rv) (n : Int) (H1 : Hid (mayB d = false)) :
    Calls Try.prog 7 #[defV d sv wv rv, .int .i64 n] w fun e w' => e = .returned (.bool true) ∧ Below w.heap.size w w' := by
  have HI := Lib.hid h
  have HS := Lib.hid (signs_no (n := n) H1.out)
  have HT := Lib.hid (signs_empty HS.out)
  obtain ⟨⟨a1, c1, rfl, q1, q2⟩, ⟨a2, c2, rfl, q3, q4⟩, ⟨a3, c3, rfl, q5, q6⟩, ls, lw, lr, q7, q8⟩ := h
  clear q1 q2 q3 q4 q5 q6 q7 q8 ls lw lr
  go_enter Try.func7, Try.ntmps7
  go_wp2_with fail
  refine (few_any _ d _ _ _ (fqI HI.out (below_al2 _ _))).mono ?_
  rintro e w1 ⟨b, rfl, hfew, hb1⟩
  have HB1 := Lib.hid (below_seq (below_al2 w _) hb1)
  cases b with
  | false =>
    clear hb1 hfew
    go_wp2_with fail
    refine (awake_any _).mono ?_
    rintro e w2 ⟨rfl, hb2⟩
    go_wp2_with fail
    go_ret
    exact ⟨rfl, below_seq HB1.out hb2⟩
  | true =>
    have HQ1 := Lib.hid ((fqI (fqI HI.out (below_al2 _ _)) hb1).toQ (hfew rfl))
    obtain ⟨hc1, hf1⟩ := keepB hb1
    have hz1 : w.heap.size < w1.heap.size := by have := hb1.size; simp at this; omega
    clear hfew hf1 hb1
    go_wp2_with fail
    refine (signs_any _ d _ _ _ HQ1.out n).mono ?_
    rintro e w2 ⟨rfl, hb2⟩
    rw [HT.out, HS.out]
    obtain ⟨hc2, hf2⟩ := keepB hb2
    clear hf2
    go_wp2_with fail
    refine (may_any _ d _ _ _ (HQ1.out.below hb2).toR).mono ?_
    rintro e w3 ⟨rfl, hb3⟩
    rw [H1.out]
    clear hc1 hc2
    go_wp2_with fail
    refine (awake_any _).mono ?_
    rintro e w4 ⟨rfl, hb4⟩
    go_wp2_with fail
    go_ret
    exact ⟨rfl, below_seq HB1.out (below_seq hb2 (below_seq hb3 hb4))⟩
end Go.Proofs.Ytkbodhhhphodiaa
