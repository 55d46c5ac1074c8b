
import Derived.Test.YtkbodhhhphodiaaSyW
import Derived.Test.YtkbodhhhphodiaaSyQ2
import Derived.Deep.MidRow
import Derived.Deep.CutBlock
namespace Go.Proofs.Ytkbodhhhphodiaa
open Go.RowKit
def zc101 : Array Value := Array.replicate 101 (.int .u8 0)
def p101 : ByteArray := strOfNums (List.replicate 101 0)
theorem p101_size : p101.size = 101 := by
  unfold p101
  rw [strOfNums_size]
  rfl
theorem make101 (w : World) : (Instr.makeSlice 30 (.int .i64 101) (.int .i64 101)).run Try.prog w = .ok (.slice (some ⟨w.heap.size, 0, none⟩) 101 101) (w.alloc (.cells zc101 5)) := by kernel_rfl
theorem conv101 (w : World) (H : Nat) (hH : w.heap.size = H) : (convert 30 9 (.slice (some ⟨H, 0, none⟩) 101 101)).run Try.prog (w.alloc (.cells zc101 5)) = .ok (.string p101) (w.alloc (.cells zc101 5)) := by
  subst hH
  refine Rd.conv ⟨_, 101, rfl, by simp, fun _ => ⟨_, 0, rfl, by simp, fun j hj => ?_⟩⟩
  unfold World.cell?
  rw [heap_alloc_self]
  have hj2 : j < 101 := by simpa using hj
  show zc101[0 + j]? = _
  unfold zc101 nth
  rw [Nat.zero_add, List.getD_eq_getElem?_getD, List.getElem?_replicate_of_lt hj2, Array.getElem?_eq_getElem (by simpa using hj2), Array.getElem_replicate]
  rfl
theorem DefQ.pad {w : World} {d : DefD} {sv wv rv : Value} (h : DefQ w d sv wv rv) : DefQ w (padD d) sv wv rv :=
  ⟨⟨h.toR.syms, h.toR.wts, h.toR.rng, h.toR.ls, h.toR.lw, h.toR.lr⟩, h.hf, h.hw⟩
theorem DefQ.pre {w : World} {d : DefD} {sv wv rv : Value} (h : DefQ w d sv wv rv) (p : ByteArray) : DefQ w (preD d p) sv wv rv :=
  ⟨⟨h.toR.syms, h.toR.wts, h.toR.rng, h.toR.ls, h.toR.lw, h.toR.lr⟩, h.hf, h.hw⟩
theorem bx_range {w : World} {b : Nat} {cs : List Value} (h : Bx w b cs.toArray) : w.rangeAt b 0 cs := fun j v hv => by
  rw [Nat.zero_add, h.cell]
  simpa using hv
set_option maxRecDepth 100000 in
set_option maxHeartbeats 6400000 in
theorem forms_2 (w : World) (d : DefD) (sv wv rv : Value) (h : DefI w d sv wv rv) (n : Int) (H1 : Hid (mayB d = true)) (HS : Hid (signsB d n = false)) :
    Calls Try.prog 7 #[defV d sv wv rv, .int .i64 n] w fun e w' => e = .returned (.bool true) ∧ Below w.heap.size w w' := by
  have HI := Lib.hid h
  have HT := Lib.hid (signs_empty HS.out)
  obtain ⟨⟨a1, c1, rfl, q1, q2⟩, ⟨a2, c2, rfl, q3, q4⟩, ⟨a3, c3, rfl, q5, q6⟩, ls, lw, lr, q7, q8⟩ := h
  clear q1 q2 q3 q4 q5 q6 q7 q8 ls lw lr
  go_enter Try.func7, Try.ntmps7
  go_wp2_with fail
  refine (few_any _ d _ _ _ (fqI HI.out (below_al2 _ _))).mono ?_
  rintro e w1 ⟨b, rfl, hfew, hb1⟩
  have HB1 := Lib.hid (below_seq (below_al2 w _) hb1)
  cases b with
  | false =>
    clear hb1 hfew
    go_wp2_with fail
    refine (awake_any _).mono ?_
    rintro e w2 ⟨rfl, hb2⟩
    go_wp2_with fail
    go_ret
    exact ⟨rfl, below_seq HB1.out hb2⟩
  | true =>
    have HQ1 := Lib.hid ((fqI (fqI HI.out (below_al2 _ _)) hb1).toQ (hfew rfl))
    have hz1 : w.heap.size < w1.heap.size := by have := hb1.size; simp at this; omega
    have HX1 : Hid (Bx w1 w.heap.size (List.toArray [.string d.name, .string d.sys, .int .i64 d.first, .slice a1 d.syms.length c1, .slice a2 d.wts.length c2, .string d.neg0, .string d.neg1, .string d.pre, .string d.suf, .bool d.auto, .slice a3 d.rng.length c3, .int .i64 d.pad, .string d.psign, .string d.fall, .string d.ext, .int .i64 d.said])) := (Bx.new w (List.toArray [.string d.name, .string d.sys, .int .i64 d.first, .slice a1 d.syms.length c1, .slice a2 d.wts.length c2, .string d.neg0, .string d.neg1, .string d.pre, .string d.suf, .bool d.auto, .slice a3 d.rng.length c3, .int .i64 d.pad, .string d.psign, .string d.fall, .string d.ext, .int .i64 d.said])).below hb1 (by simp)
    clear hfew hb1
    go_wp2_with (refine wpList_load_mid (by rfl) 28 (.tmp 2) (by rfl) w.heap.size 0 (by rfl) [.string d.name, .string d.sys, .int .i64 d.first, .slice a1 d.syms.length c1, .slice a2 d.wts.length c2, .string d.neg0, .string d.neg1, .string d.pre, .string d.suf, .bool d.auto, .slice a3 d.rng.length c3, .int .i64 d.pad, .string d.psign, .string d.fall, .string d.ext, .int .i64 d.said] _ (bx_range HX1.out) Try.underlying28 (by rfl) def_size ?_)
    refine (signs_any _ d _ _ _ HQ1.out n).mono ?_
    rintro e w2 ⟨rfl, hb2⟩
    rw [HT.out, HS.out]
    have HX2 := Lib.hid (HX1.out.below hb2 hz1)
    have hz2 : w.heap.size < w2.heap.size := Nat.lt_of_lt_of_le hz1 hb2.size
    go_wp2_with (refine wpList_load_mid (by rfl) 28 (.tmp 2) (by rfl) w.heap.size 0 (by rfl) [.string d.name, .string d.sys, .int .i64 d.first, .slice a1 d.syms.length c1, .slice a2 d.wts.length c2, .string d.neg0, .string d.neg1, .string d.pre, .string d.suf, .bool d.auto, .slice a3 d.rng.length c3, .int .i64 d.pad, .string d.psign, .string d.fall, .string d.ext, .int .i64 d.said] _ (bx_range HX2.out) Try.underlying28 (by rfl) def_size ?_)
    refine (may_any _ d _ _ _ (HQ1.out.below hb2).toR).mono ?_
    rintro e w3 ⟨rfl, hb3⟩
    rw [H1.out]
    have HX3 := Lib.hid (HX2.out.below hb3 hz2)
    have hz3 : w.heap.size < w3.heap.size := Nat.lt_of_lt_of_le hz2 hb3.size
    have HQ3 := Lib.hid ((HQ1.out.below hb2).below hb3)
    have HB3 := Lib.hid (below_seq (below_seq HB1.out hb2) hb3)
    clear hb2 hb3
    have hmk := make101
    go_wp2_with (first | (refine wpList_load_mid (by rfl) 28 (.tmp 2) (by rfl) w.heap.size 0 (by rfl) [.string d.name, .string d.sys, .int .i64 d.first, .slice a1 d.syms.length c1, .slice a2 d.wts.length c2, .string d.neg0, .string d.neg1, .string d.pre, .string d.suf, .bool d.auto, .slice a3 d.rng.length c3, .int .i64 d.pad, .string d.psign, .string d.fall, .string d.ext, .int .i64 d.said] _ (bx_range HX3.out) Try.underlying28 (by rfl) def_size ?_) | (refine wpList_load_mid (by rfl) 28 (.tmp 2) (by rfl) w.heap.size 0 (by rfl) [.string d.name, .string d.sys, .int .i64 d.first, .slice a1 d.syms.length c1, .slice a2 d.wts.length c2, .string d.neg0, .string d.neg1, .string d.pre, .string d.suf, .bool d.auto, .slice a3 d.rng.length c3, .int .i64 d.pad, .string d.psign, .string d.fall, .string d.ext, .int .i64 d.said] _ (bx_range (HX3.out.alloc _)) Try.underlying28 (by rfl) def_size ?_))
    rw [conv101 _ _ (by simp)]
    simp only [Result.andThen]
    rw [Oper.upon_value]
    go_upto_region 12 with fail
    have HXe : Hid (Bx (((w3.alloc (.cells #[.string d.name, .string d.sys, .int .i64 d.first, .slice a1 d.syms.length c1, .slice a2 d.wts.length c2, .string d.neg0, .string d.neg1, .string d.pre, .string d.suf, .bool d.auto, .slice a3 d.rng.length c3, .int .i64 201, .string d.psign, .string d.fall, .string d.ext, .int .i64 d.said] 28)).alloc (.cells #[.string d.name, .string d.sys, .int .i64 d.first, .slice a1 d.syms.length c1, .slice a2 d.wts.length c2, .string d.neg0, .string d.neg1, .string p101, .string d.suf, .bool d.auto, .slice a3 d.rng.length c3, .int .i64 d.pad, .string d.psign, .string d.fall, .string d.ext, .int .i64 d.said] 28)).alloc (.cells zc101 5)) w3.heap.size (List.toArray [.string d.name, .string d.sys, .int .i64 d.first, .slice a1 d.syms.length c1, .slice a2 d.wts.length c2, .string d.neg0, .string d.neg1, .string d.pre, .string d.suf, .bool d.auto, .slice a3 d.rng.length c3, .int .i64 201, .string d.psign, .string d.fall, .string d.ext, .int .i64 d.said])) := ((Bx.new w3 _).alloc _).alloc _
    have HXf : Hid (Bx (((w3.alloc (.cells #[.string d.name, .string d.sys, .int .i64 d.first, .slice a1 d.syms.length c1, .slice a2 d.wts.length c2, .string d.neg0, .string d.neg1, .string d.pre, .string d.suf, .bool d.auto, .slice a3 d.rng.length c3, .int .i64 201, .string d.psign, .string d.fall, .string d.ext, .int .i64 d.said] 28)).alloc (.cells #[.string d.name, .string d.sys, .int .i64 d.first, .slice a1 d.syms.length c1, .slice a2 d.wts.length c2, .string d.neg0, .string d.neg1, .string p101, .string d.suf, .bool d.auto, .slice a3 d.rng.length c3, .int .i64 d.pad, .string d.psign, .string d.fall, .string d.ext, .int .i64 d.said] 28)).alloc (.cells zc101 5)) (w3.heap.size + 1) (List.toArray [.string d.name, .string d.sys, .int .i64 d.first, .slice a1 d.syms.length c1, .slice a2 d.wts.length c2, .string d.neg0, .string d.neg1, .string p101, .string d.suf, .bool d.auto, .slice a3 d.rng.length c3, .int .i64 d.pad, .string d.psign, .string d.fall, .string d.ext, .int .i64 d.said])) := (by
      have h1 := (Bx.new (w3.alloc (.cells #[.string d.name, .string d.sys, .int .i64 d.first, .slice a1 d.syms.length c1, .slice a2 d.wts.length c2, .string d.neg0, .string d.neg1, .string d.pre, .string d.suf, .bool d.auto, .slice a3 d.rng.length c3, .int .i64 201, .string d.psign, .string d.fall, .string d.ext, .int .i64 d.said] 28)) #[.string d.name, .string d.sys, .int .i64 d.first, .slice a1 d.syms.length c1, .slice a2 d.wts.length c2, .string d.neg0, .string d.neg1, .string p101, .string d.suf, .bool d.auto, .slice a3 d.rng.length c3, .int .i64 d.pad, .string d.psign, .string d.fall, .string d.ext, .int .i64 d.said]).alloc (.cells zc101 5)
      rw [show (w3.alloc (.cells #[.string d.name, .string d.sys, .int .i64 d.first, .slice a1 d.syms.length c1, .slice a2 d.wts.length c2, .string d.neg0, .string d.neg1, .string d.pre, .string d.suf, .bool d.auto, .slice a3 d.rng.length c3, .int .i64 201, .string d.psign, .string d.fall, .string d.ext, .int .i64 d.said] 28)).heap.size = w3.heap.size + 1 by simp] at h1
      exact h1)
    have HBX : Hid (Below w3.heap.size w3 (((w3.alloc (.cells #[.string d.name, .string d.sys, .int .i64 d.first, .slice a1 d.syms.length c1, .slice a2 d.wts.length c2, .string d.neg0, .string d.neg1, .string d.pre, .string d.suf, .bool d.auto, .slice a3 d.rng.length c3, .int .i64 201, .string d.psign, .string d.fall, .string d.ext, .int .i64 d.said] 28)).alloc (.cells #[.string d.name, .string d.sys, .int .i64 d.first, .slice a1 d.syms.length c1, .slice a2 d.wts.length c2, .string d.neg0, .string d.neg1, .string p101, .string d.suf, .bool d.auto, .slice a3 d.rng.length c3, .int .i64 d.pad, .string d.psign, .string d.fall, .string d.ext, .int .i64 d.said] 28)).alloc (.cells zc101 5))) := ((below_al2 w3 _).alloc (by simp) _).alloc (by simp; omega) _
    generalize ((w3.alloc (.cells #[.string d.name, .string d.sys, .int .i64 d.first, .slice a1 d.syms.length c1, .slice a2 d.wts.length c2, .string d.neg0, .string d.neg1, .string d.pre, .string d.suf, .bool d.auto, .slice a3 d.rng.length c3, .int .i64 201, .string d.psign, .string d.fall, .string d.ext, .int .i64 d.said] 28)).alloc (.cells #[.string d.name, .string d.sys, .int .i64 d.first, .slice a1 d.syms.length c1, .slice a2 d.wts.length c2, .string d.neg0, .string d.neg1, .string p101, .string d.suf, .bool d.auto, .slice a3 d.rng.length c3, .int .i64 d.pad, .string d.psign, .string d.fall, .string d.ext, .int .i64 d.said] 28)).alloc (.cells zc101 5) = X at *
    have hX1 := HXe.out.lt
    have hX2 := HXf.out.lt
    go_wp2_with (refine wpList_load_mid (by rfl) 28 (.tmp 7) (by rfl) w3.heap.size 0 (by rfl) [.string d.name, .string d.sys, .int .i64 d.first, .slice a1 d.syms.length c1, .slice a2 d.wts.length c2, .string d.neg0, .string d.neg1, .string d.pre, .string d.suf, .bool d.auto, .slice a3 d.rng.length c3, .int .i64 201, .string d.psign, .string d.fall, .string d.ext, .int .i64 d.said] _ (bx_range HXe.out) Try.underlying28 (by rfl) def_size ?_)
    refine (may_any _ (padD d) _ _ _ (HQ3.out.below HBX.out).pad.toR).mono ?_
    rintro e w5 ⟨rfl, hb5⟩
    rw [may_pad]
    have HXf5 := Lib.hid (HXf.out.below hb5 hX2)
    have hcf := fun o => HXf5.out.cell o
    go_wp2_with fail
    refine (may_any _ (preD d p101) _ _ _ (((HQ3.out.below HBX.out).below hb5).pre p101).toR).mono ?_
    rintro e w6 ⟨rfl, hb6⟩
    clear hcf
    rw [may_pre d p101 p101_size]
    go_wp2_with fail
    refine (awake_any _).mono ?_
    rintro e w7 ⟨rfl, hb7⟩
    go_wp2_with fail
    go_ret
    exact ⟨rfl, below_seq HB3.out (below_seq HBX.out (below_seq hb5 (below_seq hb6 hb7)))⟩
end Go.Proofs.Ytkbodhhhphodiaa
