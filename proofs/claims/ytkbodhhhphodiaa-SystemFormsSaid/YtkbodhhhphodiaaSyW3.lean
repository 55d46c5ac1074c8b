
import Derived.Test.YtkbodhhhphodiaaSyW2
namespace Go.Proofs.Ytkbodhhhphodiaa
open Go.RowKit
set_option maxRecDepth 100000 in
set_option maxHeartbeats 6400000 in
theorem forms_3 (w : World) (d : DefD) (sv wv rv : Value) (h : DefI w d sv wv rv) (n : Int) (H1 : Hid (mayB d = true)) (HS : Hid (signsB d n = true)) :
    Calls Try.prog 7 #[defV d sv wv rv, .int .i64 n] w fun e w' => e = .returned (.bool true) ∧ Below w.heap.size w w' := by
  have HI := Lib.hid h
  obtain ⟨⟨a1, c1, rfl, q1, q2⟩, ⟨a2, c2, rfl, q3, q4⟩, ⟨a3, c3, rfl, q5, q6⟩, ls, lw, lr, q7, q8⟩ := h
  clear q1 q2 q3 q4 q5 q6 q7 q8 ls lw lr
  go_enter Try.func7, Try.ntmps7
  go_wp2_with fail
  refine (few_any _ d _ _ _ (fqI HI.out (below_al2 _ _))).mono ?_
  rintro e w1 ⟨b, rfl, hfew, hb1⟩
  have HB1 := Lib.hid (below_seq (below_al2 w _) hb1)
  cases b with
  | false =>
    clear hb1 hfew
    go_wp2_with fail
    refine (awake_any _).mono ?_
    rintro e w2 ⟨rfl, hb2⟩
    go_wp2_with fail
    go_ret
    exact ⟨rfl, below_seq HB1.out hb2⟩
  | true =>
    have HQ1 := Lib.hid ((fqI (fqI HI.out (below_al2 _ _)) hb1).toQ (hfew rfl))
    have hz1 : w.heap.size < w1.heap.size := by have := hb1.size; simp at this; omega
    have HX1 : Hid (Bx w1 w.heap.size (List.toArray [.string d.name, .string d.sys, .int .i64 d.first, .slice a1 d.syms.length c1, .slice a2 d.wts.length c2, .string d.neg0, .string d.neg1, .string d.pre, .string d.suf, .bool d.auto, .slice a3 d.rng.length c3, .int .i64 d.pad, .string d.psign, .string d.fall, .string d.ext, .int .i64 d.said])) := (Bx.new w (List.toArray [.string d.name, .string d.sys, .int .i64 d.first, .slice a1 d.syms.length c1, .slice a2 d.wts.length c2, .string d.neg0, .string d.neg1, .string d.pre, .string d.suf, .bool d.auto, .slice a3 d.rng.length c3, .int .i64 d.pad, .string d.psign, .string d.fall, .string d.ext, .int .i64 d.said])).below hb1 (by simp)
    clear hfew hb1
    go_wp2_with (refine wpList_load_mid (by rfl) 28 (.tmp 2) (by rfl) w.heap.size 0 (by rfl) [.string d.name, .string d.sys, .int .i64 d.first, .slice a1 d.syms.length c1, .slice a2 d.wts.length c2, .string d.neg0, .string d.neg1, .string d.pre, .string d.suf, .bool d.auto, .slice a3 d.rng.length c3, .int .i64 d.pad, .string d.psign, .string d.fall, .string d.ext, .int .i64 d.said] _ (bx_range HX1.out) Try.underlying28 (by rfl) def_size ?_)
    refine (signs_any _ d _ _ _ HQ1.out n).mono ?_
    rintro e w2 ⟨rfl, hb2⟩
    rw [HS.out]
    generalize signsT d n = T
    have HX2 := Lib.hid (HX1.out.below hb2 hz1)
    have hz2 : w.heap.size < w2.heap.size := Nat.lt_of_lt_of_le hz1 hb2.size
    go_wp2_with (refine wpList_load_mid (by rfl) 28 (.tmp 2) (by rfl) w.heap.size 0 (by rfl) [.string d.name, .string d.sys, .int .i64 d.first, .slice a1 d.syms.length c1, .slice a2 d.wts.length c2, .string d.neg0, .string d.neg1, .string d.pre, .string d.suf, .bool d.auto, .slice a3 d.rng.length c3, .int .i64 d.pad, .string d.psign, .string d.fall, .string d.ext, .int .i64 d.said] _ (bx_range HX2.out) Try.underlying28 (by rfl) def_size ?_)
    refine (may_any _ d _ _ _ (HQ1.out.below hb2).toR).mono ?_
    rintro e w3 ⟨rfl, hb3⟩
    rw [H1.out]
    have HX3 := Lib.hid (HX2.out.below hb3 hz2)
    have hz3 : w.heap.size < w3.heap.size := Nat.lt_of_lt_of_le hz2 hb3.size
    have HQ3 := Lib.hid ((HQ1.out.below hb2).below hb3)
    have HB3 := Lib.hid (below_seq (below_seq HB1.out hb2) hb3)
    clear hb2 hb3
    have hmk := make101
    have hs1 : w3.cell? ⟨w.heap.size, 1, none⟩ = some (.string d.sys) := HX3.out.cell 1
    obtain ⟨_, ⟨hn1, hn2⟩, hex⟩ := signs_facts HS.out
    have hn3 : ¬ n < -2147483648 := by omega
    have hn4 : ¬ 2147483648 < n := by omega
    have hn5 : decide (n < -2147483648) = false := decide_eq_false hn3
    have hn6 : decide (2147483648 < n) = false := decide_eq_false hn4
    go_wp2_with (first | (refine wpList_load_mid (by rfl) 28 (.tmp 2) (by rfl) w.heap.size 0 (by rfl) [.string d.name, .string d.sys, .int .i64 d.first, .slice a1 d.syms.length c1, .slice a2 d.wts.length c2, .string d.neg0, .string d.neg1, .string d.pre, .string d.suf, .bool d.auto, .slice a3 d.rng.length c3, .int .i64 d.pad, .string d.psign, .string d.fall, .string d.ext, .int .i64 d.said] _ (bx_range HX3.out) Try.underlying28 (by rfl) def_size ?_) | (refine wpList_load_mid (by rfl) 28 (.tmp 2) (by rfl) w.heap.size 0 (by rfl) [.string d.name, .string d.sys, .int .i64 d.first, .slice a1 d.syms.length c1, .slice a2 d.wts.length c2, .string d.neg0, .string d.neg1, .string d.pre, .string d.suf, .bool d.auto, .slice a3 d.rng.length c3, .int .i64 d.pad, .string d.psign, .string d.fall, .string d.ext, .int .i64 d.said] _ (bx_range (HX3.out.alloc _)) Try.underlying28 (by rfl) def_size ?_))
    rw [conv101 _ _ (by simp)]
    simp only [Result.andThen]
    rw [Oper.upon_value]
    go_upto_region 12 with fail
    have HXe : Hid (Bx (((w3.alloc (.cells #[.string d.name, .string d.sys, .int .i64 d.first, .slice a1 d.syms.length c1, .slice a2 d.wts.length c2, .string d.neg0, .string d.neg1, .string d.pre, .string d.suf, .bool d.auto, .slice a3 d.rng.length c3, .int .i64 201, .string d.psign, .string d.fall, .string d.ext, .int .i64 d.said] 28)).alloc (.cells #[.string d.name, .string d.sys, .int .i64 d.first, .slice a1 d.syms.length c1, .slice a2 d.wts.length c2, .string d.neg0, .string d.neg1, .string p101, .string d.suf, .bool d.auto, .slice a3 d.rng.length c3, .int .i64 d.pad, .string d.psign, .string d.fall, .string d.ext, .int .i64 d.said] 28)).alloc (.cells zc101 5)) w3.heap.size (List.toArray [.string d.name, .string d.sys, .int .i64 d.first, .slice a1 d.syms.length c1, .slice a2 d.wts.length c2, .string d.neg0, .string d.neg1, .string d.pre, .string d.suf, .bool d.auto, .slice a3 d.rng.length c3, .int .i64 201, .string d.psign, .string d.fall, .string d.ext, .int .i64 d.said])) := ((Bx.new w3 _).alloc _).alloc _
    have HXf : Hid (Bx (((w3.alloc (.cells #[.string d.name, .string d.sys, .int .i64 d.first, .slice a1 d.syms.length c1, .slice a2 d.wts.length c2, .string d.neg0, .string d.neg1, .string d.pre, .string d.suf, .bool d.auto, .slice a3 d.rng.length c3, .int .i64 201, .string d.psign, .string d.fall, .string d.ext, .int .i64 d.said] 28)).alloc (.cells #[.string d.name, .string d.sys, .int .i64 d.first, .slice a1 d.syms.length c1, .slice a2 d.wts.length c2, .string d.neg0, .string d.neg1, .string p101, .string d.suf, .bool d.auto, .slice a3 d.rng.length c3, .int .i64 d.pad, .string d.psign, .string d.fall, .string d.ext, .int .i64 d.said] 28)).alloc (.cells zc101 5)) (w3.heap.size + 1) (List.toArray [.string d.name, .string d.sys, .int .i64 d.first, .slice a1 d.syms.length c1, .slice a2 d.wts.length c2, .string d.neg0, .string d.neg1, .string p101, .string d.suf, .bool d.auto, .slice a3 d.rng.length c3, .int .i64 d.pad, .string d.psign, .string d.fall, .string d.ext, .int .i64 d.said])) := (by
      have h1 := (Bx.new (w3.alloc (.cells #[.string d.name, .string d.sys, .int .i64 d.first, .slice a1 d.syms.length c1, .slice a2 d.wts.length c2, .string d.neg0, .string d.neg1, .string d.pre, .string d.suf, .bool d.auto, .slice a3 d.rng.length c3, .int .i64 201, .string d.psign, .string d.fall, .string d.ext, .int .i64 d.said] 28)) #[.string d.name, .string d.sys, .int .i64 d.first, .slice a1 d.syms.length c1, .slice a2 d.wts.length c2, .string d.neg0, .string d.neg1, .string p101, .string d.suf, .bool d.auto, .slice a3 d.rng.length c3, .int .i64 d.pad, .string d.psign, .string d.fall, .string d.ext, .int .i64 d.said]).alloc (.cells zc101 5)
      rw [show (w3.alloc (.cells #[.string d.name, .string d.sys, .int .i64 d.first, .slice a1 d.syms.length c1, .slice a2 d.wts.length c2, .string d.neg0, .string d.neg1, .string d.pre, .string d.suf, .bool d.auto, .slice a3 d.rng.length c3, .int .i64 201, .string d.psign, .string d.fall, .string d.ext, .int .i64 d.said] 28)).heap.size = w3.heap.size + 1 by simp] at h1
      exact h1)
    have HBX : Hid (Below w3.heap.size w3 (((w3.alloc (.cells #[.string d.name, .string d.sys, .int .i64 d.first, .slice a1 d.syms.length c1, .slice a2 d.wts.length c2, .string d.neg0, .string d.neg1, .string d.pre, .string d.suf, .bool d.auto, .slice a3 d.rng.length c3, .int .i64 201, .string d.psign, .string d.fall, .string d.ext, .int .i64 d.said] 28)).alloc (.cells #[.string d.name, .string d.sys, .int .i64 d.first, .slice a1 d.syms.length c1, .slice a2 d.wts.length c2, .string d.neg0, .string d.neg1, .string p101, .string d.suf, .bool d.auto, .slice a3 d.rng.length c3, .int .i64 d.pad, .string d.psign, .string d.fall, .string d.ext, .int .i64 d.said] 28)).alloc (.cells zc101 5))) := ((below_al2 w3 _).alloc (by simp) _).alloc (by simp; omega) _
    generalize ((w3.alloc (.cells #[.string d.name, .string d.sys, .int .i64 d.first, .slice a1 d.syms.length c1, .slice a2 d.wts.length c2, .string d.neg0, .string d.neg1, .string d.pre, .string d.suf, .bool d.auto, .slice a3 d.rng.length c3, .int .i64 201, .string d.psign, .string d.fall, .string d.ext, .int .i64 d.said] 28)).alloc (.cells #[.string d.name, .string d.sys, .int .i64 d.first, .slice a1 d.syms.length c1, .slice a2 d.wts.length c2, .string d.neg0, .string d.neg1, .string p101, .string d.suf, .bool d.auto, .slice a3 d.rng.length c3, .int .i64 d.pad, .string d.psign, .string d.fall, .string d.ext, .int .i64 d.said] 28)).alloc (.cells zc101 5) = X at *
    have hX1 := HXe.out.lt
    have hX2 := HXf.out.lt
    go_wp2_with (refine wpList_load_mid (by rfl) 28 (.tmp 7) (by rfl) w3.heap.size 0 (by rfl) [.string d.name, .string d.sys, .int .i64 d.first, .slice a1 d.syms.length c1, .slice a2 d.wts.length c2, .string d.neg0, .string d.neg1, .string d.pre, .string d.suf, .bool d.auto, .slice a3 d.rng.length c3, .int .i64 201, .string d.psign, .string d.fall, .string d.ext, .int .i64 d.said] _ (bx_range HXe.out) Try.underlying28 (by rfl) def_size ?_)
    refine (may_any _ (padD d) _ _ _ (HQ3.out.below HBX.out).pad.toR).mono ?_
    rintro e w5 ⟨rfl, hb5⟩
    rw [may_pad]
    have HXf5 := Lib.hid (HXf.out.below hb5 hX2)
    have hcf := fun o => HXf5.out.cell o
    go_wp2_with fail
    refine (may_any _ (preD d p101) _ _ _ (((HQ3.out.below HBX.out).below hb5).pre p101).toR).mono ?_
    rintro e w6 ⟨rfl, hb6⟩
    clear hcf
    rw [may_pre d p101 p101_size]
    go_wp2_with fail
    refine (awake_any _).mono ?_
    rintro e w7 ⟨rfl, hb7⟩
    go_wp2_with fail
    go_ret
    exact ⟨rfl, below_seq HB3.out (below_seq HBX.out (below_seq hb5 (below_seq hb6 hb7)))⟩
theorem SystemForms_any (w : World) (d : DefD) (sv wv rv : Value) (h : DefI w d sv wv rv) (n : Int) (_wn : (Lit.int .i64 n).wf = true) :
    Calls Try.prog 7 #[defV d sv wv rv, .int .i64 n] w fun e w' => e = .returned (.bool true) ∧ Below w.heap.size w w' := by
  cases h1 : mayB d
  · exact forms_1 w d sv wv rv h n h1
  · cases h2 : signsB d n
    · exact forms_2 w d sv wv rv h n h1 h2
    · exact forms_3 w d sv wv rv h n h1 h2
end Go.Proofs.Ytkbodhhhphodiaa
