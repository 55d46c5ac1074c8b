
import Derived.Test.YtlajkfnlkkgneaaTkN
namespace Go.Proofs.Ytlajkfnlkkgneaa
open Go.RowKit
section
variable {g : Nat} {v : Value} {xs r : List Int} {w0 w : World}
set_option maxRecDepth 100000 in
set_option maxHeartbeats 1600000 in
theorem plain_111 (h : Now 38 g v xs r w0 w) (hl : 1 ≤ r.length) (hs : sgn r 0 = true) (hf : frac (cnt (dp 1 r)) 0 = true) (hx : decide (0 < expo (cnt (dp 1 (cnt (dp 1 r))))) = true) :
    Calls Try.prog 37 #[.pointer (some ⟨g, 0, none⟩)] w fun e w' => e = .returned (Tok.val { kind := 0, int := 0, whole := false, sign := true }) ∧ Now 38 g v xs (cnt (dp (expo (cnt (dp 1 (cnt (dp 1 r))))) (cnt (dp 1 (cnt (dp 1 r)))))) w0 w' := by
  have hgo := h.st.lt
  have hws := h.gw.size
  have hA := (h.alloc zeroT).st.now
  have hZ := TokB.zero w
  have c1 := hA.st.cell1
  have hxl := h.st.len
  have hrl := h.st.rlen
  have hr1 := hl
  have hr2 : 1 ≤ (cnt (dp 1 r)).length := frac_len hf
  have hr3 : 0 < expo (cnt (dp 1 (cnt (dp 1 r)))) := by simpa using hx
  have hr4 := expo_len (cnt (dp 1 (cnt (dp 1 r))))
  have hr5 : 0 < (expo (cnt (dp 1 (cnt (dp 1 r)))) : Int) := by omega
  go_enter Try.func37, Try.ntmps37
  go_wp2_with (go_at_call 35; (with_reducible refine (signed_0 hA).mono ?_); rintro e w1 ⟨rfl, h1⟩)
  have hB0 : Now 38 g v xs r w0 (w1.alloc (.cells #[.int .i64 0, .string ⟨#[]⟩, .int .i64 0, .bool true, .bool true, .bool false] 26)) := (h1.since (h.alloc zeroT)).alloc _
  have hZ1 := (hZ.keep h1 hgo).alloc (.cells #[.int .i64 0, .string ⟨#[]⟩, .int .i64 0, .bool true, .bool true, .bool false] 26)
  have hT : TokB w1.heap.size { kind := 0, whole := true, sign := true } (w1.alloc (.cells #[.int .i64 0, .string ⟨#[]⟩, .int .i64 0, .bool true, .bool true, .bool false] 26)) := heap_alloc_self _ _
  have hg4 : w.heap.size < w1.heap.size := by have := h1.gw.size; simp at this; omega
  have hg5 : g < w1.heap.size := by omega
  clear h1 hA hZ c1
  generalize w1.alloc (.cells #[.int .i64 0, .string ⟨#[]⟩, .int .i64 0, .bool true, .bool true, .bool false] 26) = wB at *
  generalize w1.heap.size = b4 at *
  have h1 := hB0.st.now
  go_wp2_with (first | (go_at_call 44; (with_reducible refine (countW_any h1).mono ?_); rintro e w1 ⟨rfl, h1⟩; have hc4 := (hT.keep h1 hg5).cells) | (go_at_call 36; (with_reducible refine (frac_0 h1).mono ?_); rintro e w1 ⟨rfl, h1⟩) | (go_at_call 16; (with_reducible refine (skip_1 h1 hr1).mono ?_); rintro e w1 ⟨rfl, h1⟩) | (go_at_call 16; (with_reducible refine (skip_1 h1 hr2).mono ?_); rintro e w1 ⟨rfl, h1⟩))
  have hS2 := (h1.since hB0).set (p := ⟨b4, 3, none⟩) (by show w0.heap.size ≤ b4; omega) (.bool false)
  have hT2 := (hT.keep h1 hg5).whole false
  have hZ20 := (hZ1.keep h1 hgo).other (p := ⟨b4, 3, none⟩) (by show w.heap.size ≠ b4; omega) (.bool false)
  clear hc4 h1
  generalize w1.setCell ⟨b4, 3, none⟩ (.bool false) = wC2 at *
  have h1 := hS2.st.now
  go_wp2_with (first | (go_at_call 45; (with_reducible refine (expo_any h1).mono ?_); rintro e w1 ⟨rfl, h1⟩) | (go_at_call 16; (with_reducible refine (skip_any h1 _ hr4).mono ?_); rintro e w1 ⟨rfl, h1⟩) | (go_at_call 44; (with_reducible refine (countW_any h1).mono ?_); rintro e w1 ⟨rfl, h1⟩; have hc4 := (hT2.keep h1 hg5).cells; have hcz := (hZ20.keep h1 hgo).cells))
  refine bodyPost_ret (v := Tok.val { kind := 0, int := 0, whole := false, sign := true }) ?_ rfl ⟨rfl, ?_⟩
  · simp [results, Try.results37, go_sem, hcz, Tok.val]
  · exact ((h1.since hS2).set (p := ⟨b4, 3, none⟩) (by show w0.heap.size ≤ b4; omega) (.bool false)).put6 hws _ _ _ _ _ _
set_option maxRecDepth 100000 in
set_option maxHeartbeats 1600000 in
theorem plain_110 (h : Now 38 g v xs r w0 w) (hl : 1 ≤ r.length) (hs : sgn r 0 = true) (hf : frac (cnt (dp 1 r)) 0 = true) (hx : decide (0 < expo (cnt (dp 1 (cnt (dp 1 r))))) = false) :
    Calls Try.prog 37 #[.pointer (some ⟨g, 0, none⟩)] w fun e w' => e = .returned (Tok.val { kind := 0, int := 0, whole := false, sign := true }) ∧ Now 38 g v xs (cnt (dp 1 (cnt (dp 1 r)))) w0 w' := by
  have hgo := h.st.lt
  have hws := h.gw.size
  have hA := (h.alloc zeroT).st.now
  have hZ := TokB.zero w
  have c1 := hA.st.cell1
  have hxl := h.st.len
  have hrl := h.st.rlen
  have hr1 := hl
  have hr2 : 1 ≤ (cnt (dp 1 r)).length := frac_len hf
  have hr3 : (expo (cnt (dp 1 (cnt (dp 1 r)))) : Int) ≤ 0 := by simp at hx; omega
  go_enter Try.func37, Try.ntmps37
  go_wp2_with (go_at_call 35; (with_reducible refine (signed_0 hA).mono ?_); rintro e w1 ⟨rfl, h1⟩)
  have hB0 : Now 38 g v xs r w0 (w1.alloc (.cells #[.int .i64 0, .string ⟨#[]⟩, .int .i64 0, .bool true, .bool true, .bool false] 26)) := (h1.since (h.alloc zeroT)).alloc _
  have hZ1 := (hZ.keep h1 hgo).alloc (.cells #[.int .i64 0, .string ⟨#[]⟩, .int .i64 0, .bool true, .bool true, .bool false] 26)
  have hT : TokB w1.heap.size { kind := 0, whole := true, sign := true } (w1.alloc (.cells #[.int .i64 0, .string ⟨#[]⟩, .int .i64 0, .bool true, .bool true, .bool false] 26)) := heap_alloc_self _ _
  have hg4 : w.heap.size < w1.heap.size := by have := h1.gw.size; simp at this; omega
  have hg5 : g < w1.heap.size := by omega
  clear h1 hA hZ c1
  generalize w1.alloc (.cells #[.int .i64 0, .string ⟨#[]⟩, .int .i64 0, .bool true, .bool true, .bool false] 26) = wB at *
  generalize w1.heap.size = b4 at *
  have h1 := hB0.st.now
  go_wp2_with (first | (go_at_call 44; (with_reducible refine (countW_any h1).mono ?_); rintro e w1 ⟨rfl, h1⟩; have hc4 := (hT.keep h1 hg5).cells) | (go_at_call 36; (with_reducible refine (frac_0 h1).mono ?_); rintro e w1 ⟨rfl, h1⟩) | (go_at_call 16; (with_reducible refine (skip_1 h1 hr1).mono ?_); rintro e w1 ⟨rfl, h1⟩) | (go_at_call 16; (with_reducible refine (skip_1 h1 hr2).mono ?_); rintro e w1 ⟨rfl, h1⟩))
  have hS2 := (h1.since hB0).set (p := ⟨b4, 3, none⟩) (by show w0.heap.size ≤ b4; omega) (.bool false)
  have hT2 := (hT.keep h1 hg5).whole false
  have hZ20 := (hZ1.keep h1 hgo).other (p := ⟨b4, 3, none⟩) (by show w.heap.size ≠ b4; omega) (.bool false)
  clear hc4 h1
  generalize w1.setCell ⟨b4, 3, none⟩ (.bool false) = wC2 at *
  have h1 := hS2.st.now
  go_wp2_with (go_at_call 45; (with_reducible refine (expo_any h1).mono ?_); rintro e w1 ⟨rfl, h1⟩; have hc4 := (hT2.keep h1 hg5).cells; have hcz := (hZ20.keep h1 hgo).cells)
  refine bodyPost_ret (v := Tok.val { kind := 0, int := 0, whole := false, sign := true }) ?_ rfl ⟨rfl, ?_⟩
  · simp [results, Try.results37, go_sem, hcz, Tok.val]
  · exact (h1.since hS2).put6 hws _ _ _ _ _ _
set_option maxRecDepth 100000 in
set_option maxHeartbeats 1600000 in
theorem plain_101 (h : Now 38 g v xs r w0 w) (hl : 1 ≤ r.length) (hs : sgn r 0 = true) (hf : frac (cnt (dp 1 r)) 0 = false) (hx : decide (0 < expo (cnt (dp 1 r))) = true) :
    Calls Try.prog 37 #[.pointer (some ⟨g, 0, none⟩)] w fun e w' => e = .returned (Tok.val { kind := 0, int := 0, whole := false, sign := true }) ∧ Now 38 g v xs (cnt (dp (expo (cnt (dp 1 r))) (cnt (dp 1 r)))) w0 w' := by
  have hgo := h.st.lt
  have hws := h.gw.size
  have hA := (h.alloc zeroT).st.now
  have hZ := TokB.zero w
  have c1 := hA.st.cell1
  have hxl := h.st.len
  have hrl := h.st.rlen
  have hr1 := hl
  have hr3 : 0 < expo (cnt (dp 1 r)) := by simpa using hx
  have hr4 := expo_len (cnt (dp 1 r))
  have hr5 : 0 < (expo (cnt (dp 1 r)) : Int) := by omega
  go_enter Try.func37, Try.ntmps37
  go_wp2_with (go_at_call 35; (with_reducible refine (signed_0 hA).mono ?_); rintro e w1 ⟨rfl, h1⟩)
  have hB0 : Now 38 g v xs r w0 (w1.alloc (.cells #[.int .i64 0, .string ⟨#[]⟩, .int .i64 0, .bool true, .bool true, .bool false] 26)) := (h1.since (h.alloc zeroT)).alloc _
  have hZ1 := (hZ.keep h1 hgo).alloc (.cells #[.int .i64 0, .string ⟨#[]⟩, .int .i64 0, .bool true, .bool true, .bool false] 26)
  have hT : TokB w1.heap.size { kind := 0, whole := true, sign := true } (w1.alloc (.cells #[.int .i64 0, .string ⟨#[]⟩, .int .i64 0, .bool true, .bool true, .bool false] 26)) := heap_alloc_self _ _
  have hg4 : w.heap.size < w1.heap.size := by have := h1.gw.size; simp at this; omega
  have hg5 : g < w1.heap.size := by omega
  clear h1 hA hZ c1
  generalize w1.alloc (.cells #[.int .i64 0, .string ⟨#[]⟩, .int .i64 0, .bool true, .bool true, .bool false] 26) = wB at *
  generalize w1.heap.size = b4 at *
  have h1 := hB0.st.now
  go_wp2_with (first | (go_at_call 44; (with_reducible refine (countW_any h1).mono ?_); rintro e w1 ⟨rfl, h1⟩; have hc4 := (hT.keep h1 hg5).cells) | (go_at_call 36; (with_reducible refine (frac_0 h1).mono ?_); rintro e w1 ⟨rfl, h1⟩) | (go_at_call 16; (with_reducible refine (skip_1 h1 hr1).mono ?_); rintro e w1 ⟨rfl, h1⟩))
  go_wp2_with (first | (go_at_call 45; (with_reducible refine (expo_any h1).mono ?_); rintro e w1 ⟨rfl, h1⟩) | (go_at_call 16; (with_reducible refine (skip_any h1 _ hr4).mono ?_); rintro e w1 ⟨rfl, h1⟩) | (go_at_call 44; (with_reducible refine (countW_any h1).mono ?_); rintro e w1 ⟨rfl, h1⟩; have hc4 := (hT.keep h1 hg5).cells; have hcz := (hZ1.keep h1 hgo).cells))
  refine bodyPost_ret (v := Tok.val { kind := 0, int := 0, whole := false, sign := true }) ?_ rfl ⟨rfl, ?_⟩
  · simp [results, Try.results37, go_sem, hcz, Tok.val]
  · exact ((h1.since hB0).set (p := ⟨b4, 3, none⟩) (by show w0.heap.size ≤ b4; omega) (.bool false)).put6 hws _ _ _ _ _ _
set_option maxRecDepth 100000 in
set_option maxHeartbeats 1600000 in
theorem plain_100 (h : Now 38 g v xs r w0 w) (hl : 1 ≤ r.length) (hs : sgn r 0 = true) (hf : frac (cnt (dp 1 r)) 0 = false) (hx : decide (0 < expo (cnt (dp 1 r))) = false) :
    Calls Try.prog 37 #[.pointer (some ⟨g, 0, none⟩)] w fun e w' => e = .returned (Tok.val { kind := 0, int := intV (nums (runesBytes (r.take (r.length - (cnt (dp 1 r)).length)))), whole := true, sign := true }) ∧ Now 38 g v xs (cnt (dp 1 r)) w0 w' := by
  have hgo := h.st.lt
  have hws := h.gw.size
  have hA := (h.alloc zeroT).st.now
  have hZ := TokB.zero w
  have c1 := hA.st.cell1
  have hxl := h.st.len
  have hrl := h.st.rlen
  have hr1 := hl
  have hr3 : (expo (cnt (dp 1 r)) : Int) ≤ 0 := by simp at hx; omega
  go_enter Try.func37, Try.ntmps37
  go_wp2_with (go_at_call 35; (with_reducible refine (signed_0 hA).mono ?_); rintro e w1 ⟨rfl, h1⟩)
  have hB0 : Now 38 g v xs r w0 (w1.alloc (.cells #[.int .i64 0, .string ⟨#[]⟩, .int .i64 0, .bool true, .bool true, .bool false] 26)) := (h1.since (h.alloc zeroT)).alloc _
  have hZ1 := (hZ.keep h1 hgo).alloc (.cells #[.int .i64 0, .string ⟨#[]⟩, .int .i64 0, .bool true, .bool true, .bool false] 26)
  have hT : TokB w1.heap.size { kind := 0, whole := true, sign := true } (w1.alloc (.cells #[.int .i64 0, .string ⟨#[]⟩, .int .i64 0, .bool true, .bool true, .bool false] 26)) := heap_alloc_self _ _
  have hg4 : w.heap.size < w1.heap.size := by have := h1.gw.size; simp at this; omega
  have hg5 : g < w1.heap.size := by omega
  clear h1 hA hZ c1
  generalize w1.alloc (.cells #[.int .i64 0, .string ⟨#[]⟩, .int .i64 0, .bool true, .bool true, .bool false] 26) = wB at *
  generalize w1.heap.size = b4 at *
  have h1 := hB0.st.now
  go_wp2_with (first | (go_at_call 44; (with_reducible refine (countW_any h1).mono ?_); rintro e w1 ⟨rfl, h1⟩; have hc4 := (hT.keep h1 hg5).cells) | (go_at_call 36; (with_reducible refine (frac_0 h1).mono ?_); rintro e w1 ⟨rfl, h1⟩) | (go_at_call 16; (with_reducible refine (skip_1 h1 hr1).mono ?_); rintro e w1 ⟨rfl, h1⟩))
  go_wp2_with (go_at_call 45; (with_reducible refine (expo_any h1).mono ?_); rintro e w1 ⟨rfl, h1⟩; have hc4 := (hT.keep h1 hg5).cells; have hcz := (hZ1.keep h1 hgo).cells)
  have hq2 := cnt_suf (dp 1 r)
  have hq3 : (dp 1 r) <:+ r := dp_suf 1 r
  have hk1 := hq2.length_le
  have hk2 := hq3.length_le
  have hseg := h.st.seg (cnt (dp 1 r)).length (by omega)
  have hrd := h1.st.rd
  have d0 := h1.st.cell0
  have d1 := h1.st.cell1
  obtain ⟨a, c, rfl, hle, hcell⟩ := hrd
  obtain ⟨b, off, rfl, hbl, hcc⟩ := hcell (by omega)
  have hcv := segConv b off c (xs.length - r.length) (xs.length - (cnt (dp 1 r)).length) xs (by omega) (by omega) w1.drew hcc
  rw [hseg] at hcv
  have d2 : ({ heap := w1.heap, tape := w1.tape, drawn := w1.drawn + 1, os := w1.os, output := w1.output } : World).cell? ⟨g, 0, none⟩ = some (Value.slice (some ⟨b, off, none⟩) xs.length c) := d0
  have d3 : ({ heap := w1.heap, tape := w1.tape, drawn := w1.drawn + 1, os := w1.os, output := w1.output } : World).cell? ⟨g, 1, none⟩ = some (Value.int .i64 ((xs.length - (cnt (dp 1 r)).length : Nat) : Int)) := d1
  have HSEG := Lib.hid hseg
  clear hseg hcell hcc
  have i1 : (0:Int) ≤ ((xs.length - r.length : Nat) : Int) := by omega
  have i2 : ((xs.length - r.length : Nat) : Int) ≤ ((xs.length - (cnt (dp 1 r)).length : Nat) : Int) := by omega
  have i3 : ((xs.length - (cnt (dp 1 r)).length : Nat) : Int) ≤ (c : Int) := by omega
  have hne : ¬ c = xs.length - r.length := by omega
  have hT9 : TokB b4 { kind := 0, whole := true, sign := true } w1.drew := hT.keep h1.drew hg5
  have hZ9 : TokB w.heap.size { kind := 0 } w1.drew := hZ1.keep h1.drew hgo
  have hN9 := (h1.since hB0).drew
  have hsz : (runesBytes (List.take (r.length - (cnt (dp 1 r)).length) r)).size ≤ 1000000000 := by
    have e1 := runesBytes_size_le (List.take (r.length - (cnt (dp 1 r)).length) r)
    have e2 : (List.take (r.length - (cnt (dp 1 r)).length) r).length ≤ r.length := by rw [List.length_take]; omega
    omega
  clear hc4 hcz hT hZ1
  go_still_tail 11, (by kernel_rfl)
  change wpList _ _ _ _ _ w1.drew
  clear hcv d0 d1 d2 d3
  generalize w1.drew = w2 at *
  go_wp2_with (go_at_call 7; (with_reducible refine (int_any _ _ hsz).mono ?_); rintro e w3 ⟨rfl, hb3⟩; have h3 := hN9.st.now.below hb3; have hc4 := (hT9.keep h3 hg5).cells; have hcz := (hZ9.keep h3 hgo).cells)
  refine bodyPost_ret (v := Tok.val { kind := 0, int := intV (nums (runesBytes (r.take (r.length - (cnt (dp 1 r)).length)))), whole := true, sign := true }) ?_ rfl ⟨rfl, ?_⟩
  · simp [results, Try.results37, go_sem, hcz, Tok.val]
  · exact ((h3.since hN9).set (p := ⟨b4, 2, none⟩) (by show w0.heap.size ≤ b4; omega) _).put6 hws _ _ _ _ _ _
set_option maxRecDepth 100000 in
set_option maxHeartbeats 1600000 in
theorem plain_011 (h : Now 38 g v xs r w0 w) (_ : 1 ≤ r.length) (hs : sgn r 0 = false) (hf : frac (cnt r) 0 = true) (hx : decide (0 < expo (cnt (dp 1 (cnt r)))) = true) :
    Calls Try.prog 37 #[.pointer (some ⟨g, 0, none⟩)] w fun e w' => e = .returned (Tok.val { kind := 0, int := 0, whole := false, sign := false }) ∧ Now 38 g v xs (cnt (dp (expo (cnt (dp 1 (cnt r)))) (cnt (dp 1 (cnt r))))) w0 w' := by
  have hgo := h.st.lt
  have hws := h.gw.size
  have hA := (h.alloc zeroT).st.now
  have hZ := TokB.zero w
  have c1 := hA.st.cell1
  have hxl := h.st.len
  have hrl := h.st.rlen
  have hr2 : 1 ≤ (cnt r).length := frac_len hf
  have hr3 : 0 < expo (cnt (dp 1 (cnt r))) := by simpa using hx
  have hr4 := expo_len (cnt (dp 1 (cnt r)))
  have hr5 : 0 < (expo (cnt (dp 1 (cnt r))) : Int) := by omega
  go_enter Try.func37, Try.ntmps37
  go_wp2_with (go_at_call 35; (with_reducible refine (signed_0 hA).mono ?_); rintro e w1 ⟨rfl, h1⟩)
  have hB0 : Now 38 g v xs r w0 (w1.alloc (.cells #[.int .i64 0, .string ⟨#[]⟩, .int .i64 0, .bool true, .bool false, .bool false] 26)) := (h1.since (h.alloc zeroT)).alloc _
  have hZ1 := (hZ.keep h1 hgo).alloc (.cells #[.int .i64 0, .string ⟨#[]⟩, .int .i64 0, .bool true, .bool false, .bool false] 26)
  have hT : TokB w1.heap.size { kind := 0, whole := true, sign := false } (w1.alloc (.cells #[.int .i64 0, .string ⟨#[]⟩, .int .i64 0, .bool true, .bool false, .bool false] 26)) := heap_alloc_self _ _
  have hg4 : w.heap.size < w1.heap.size := by have := h1.gw.size; simp at this; omega
  have hg5 : g < w1.heap.size := by omega
  clear h1 hA hZ c1
  generalize w1.alloc (.cells #[.int .i64 0, .string ⟨#[]⟩, .int .i64 0, .bool true, .bool false, .bool false] 26) = wB at *
  generalize w1.heap.size = b4 at *
  have h1 := hB0.st.now
  go_wp2_with (first | (go_at_call 44; (with_reducible refine (countW_any h1).mono ?_); rintro e w1 ⟨rfl, h1⟩; have hc4 := (hT.keep h1 hg5).cells) | (go_at_call 36; (with_reducible refine (frac_0 h1).mono ?_); rintro e w1 ⟨rfl, h1⟩) | (go_at_call 16; (with_reducible refine (skip_1 h1 hr2).mono ?_); rintro e w1 ⟨rfl, h1⟩))
  have hS2 := (h1.since hB0).set (p := ⟨b4, 3, none⟩) (by show w0.heap.size ≤ b4; omega) (.bool false)
  have hT2 := (hT.keep h1 hg5).whole false
  have hZ20 := (hZ1.keep h1 hgo).other (p := ⟨b4, 3, none⟩) (by show w.heap.size ≠ b4; omega) (.bool false)
  clear hc4 h1
  generalize w1.setCell ⟨b4, 3, none⟩ (.bool false) = wC2 at *
  have h1 := hS2.st.now
  go_wp2_with (first | (go_at_call 45; (with_reducible refine (expo_any h1).mono ?_); rintro e w1 ⟨rfl, h1⟩) | (go_at_call 16; (with_reducible refine (skip_any h1 _ hr4).mono ?_); rintro e w1 ⟨rfl, h1⟩) | (go_at_call 44; (with_reducible refine (countW_any h1).mono ?_); rintro e w1 ⟨rfl, h1⟩; have hc4 := (hT2.keep h1 hg5).cells; have hcz := (hZ20.keep h1 hgo).cells))
  refine bodyPost_ret (v := Tok.val { kind := 0, int := 0, whole := false, sign := false }) ?_ rfl ⟨rfl, ?_⟩
  · simp [results, Try.results37, go_sem, hcz, Tok.val]
  · exact ((h1.since hS2).set (p := ⟨b4, 3, none⟩) (by show w0.heap.size ≤ b4; omega) (.bool false)).put6 hws _ _ _ _ _ _
set_option maxRecDepth 100000 in
set_option maxHeartbeats 1600000 in
theorem plain_010 (h : Now 38 g v xs r w0 w) (_ : 1 ≤ r.length) (hs : sgn r 0 = false) (hf : frac (cnt r) 0 = true) (hx : decide (0 < expo (cnt (dp 1 (cnt r)))) = false) :
    Calls Try.prog 37 #[.pointer (some ⟨g, 0, none⟩)] w fun e w' => e = .returned (Tok.val { kind := 0, int := 0, whole := false, sign := false }) ∧ Now 38 g v xs (cnt (dp 1 (cnt r))) w0 w' := by
  have hgo := h.st.lt
  have hws := h.gw.size
  have hA := (h.alloc zeroT).st.now
  have hZ := TokB.zero w
  have c1 := hA.st.cell1
  have hxl := h.st.len
  have hrl := h.st.rlen
  have hr2 : 1 ≤ (cnt r).length := frac_len hf
  have hr3 : (expo (cnt (dp 1 (cnt r))) : Int) ≤ 0 := by simp at hx; omega
  go_enter Try.func37, Try.ntmps37
  go_wp2_with (go_at_call 35; (with_reducible refine (signed_0 hA).mono ?_); rintro e w1 ⟨rfl, h1⟩)
  have hB0 : Now 38 g v xs r w0 (w1.alloc (.cells #[.int .i64 0, .string ⟨#[]⟩, .int .i64 0, .bool true, .bool false, .bool false] 26)) := (h1.since (h.alloc zeroT)).alloc _
  have hZ1 := (hZ.keep h1 hgo).alloc (.cells #[.int .i64 0, .string ⟨#[]⟩, .int .i64 0, .bool true, .bool false, .bool false] 26)
  have hT : TokB w1.heap.size { kind := 0, whole := true, sign := false } (w1.alloc (.cells #[.int .i64 0, .string ⟨#[]⟩, .int .i64 0, .bool true, .bool false, .bool false] 26)) := heap_alloc_self _ _
  have hg4 : w.heap.size < w1.heap.size := by have := h1.gw.size; simp at this; omega
  have hg5 : g < w1.heap.size := by omega
  clear h1 hA hZ c1
  generalize w1.alloc (.cells #[.int .i64 0, .string ⟨#[]⟩, .int .i64 0, .bool true, .bool false, .bool false] 26) = wB at *
  generalize w1.heap.size = b4 at *
  have h1 := hB0.st.now
  go_wp2_with (first | (go_at_call 44; (with_reducible refine (countW_any h1).mono ?_); rintro e w1 ⟨rfl, h1⟩; have hc4 := (hT.keep h1 hg5).cells) | (go_at_call 36; (with_reducible refine (frac_0 h1).mono ?_); rintro e w1 ⟨rfl, h1⟩) | (go_at_call 16; (with_reducible refine (skip_1 h1 hr2).mono ?_); rintro e w1 ⟨rfl, h1⟩))
  have hS2 := (h1.since hB0).set (p := ⟨b4, 3, none⟩) (by show w0.heap.size ≤ b4; omega) (.bool false)
  have hT2 := (hT.keep h1 hg5).whole false
  have hZ20 := (hZ1.keep h1 hgo).other (p := ⟨b4, 3, none⟩) (by show w.heap.size ≠ b4; omega) (.bool false)
  clear hc4 h1
  generalize w1.setCell ⟨b4, 3, none⟩ (.bool false) = wC2 at *
  have h1 := hS2.st.now
  go_wp2_with (go_at_call 45; (with_reducible refine (expo_any h1).mono ?_); rintro e w1 ⟨rfl, h1⟩; have hc4 := (hT2.keep h1 hg5).cells; have hcz := (hZ20.keep h1 hgo).cells)
  refine bodyPost_ret (v := Tok.val { kind := 0, int := 0, whole := false, sign := false }) ?_ rfl ⟨rfl, ?_⟩
  · simp [results, Try.results37, go_sem, hcz, Tok.val]
  · exact (h1.since hS2).put6 hws _ _ _ _ _ _
set_option maxRecDepth 100000 in
set_option maxHeartbeats 1600000 in
theorem plain_001 (h : Now 38 g v xs r w0 w) (_ : 1 ≤ r.length) (hs : sgn r 0 = false) (hf : frac (cnt r) 0 = false) (hx : decide (0 < expo (cnt r)) = true) :
    Calls Try.prog 37 #[.pointer (some ⟨g, 0, none⟩)] w fun e w' => e = .returned (Tok.val { kind := 0, int := 0, whole := false, sign := false }) ∧ Now 38 g v xs (cnt (dp (expo (cnt r)) (cnt r))) w0 w' := by
  have hgo := h.st.lt
  have hws := h.gw.size
  have hA := (h.alloc zeroT).st.now
  have hZ := TokB.zero w
  have c1 := hA.st.cell1
  have hxl := h.st.len
  have hrl := h.st.rlen
  have hr3 : 0 < expo (cnt r) := by simpa using hx
  have hr4 := expo_len (cnt r)
  have hr5 : 0 < (expo (cnt r) : Int) := by omega
  go_enter Try.func37, Try.ntmps37
  go_wp2_with (go_at_call 35; (with_reducible refine (signed_0 hA).mono ?_); rintro e w1 ⟨rfl, h1⟩)
  have hB0 : Now 38 g v xs r w0 (w1.alloc (.cells #[.int .i64 0, .string ⟨#[]⟩, .int .i64 0, .bool true, .bool false, .bool false] 26)) := (h1.since (h.alloc zeroT)).alloc _
  have hZ1 := (hZ.keep h1 hgo).alloc (.cells #[.int .i64 0, .string ⟨#[]⟩, .int .i64 0, .bool true, .bool false, .bool false] 26)
  have hT : TokB w1.heap.size { kind := 0, whole := true, sign := false } (w1.alloc (.cells #[.int .i64 0, .string ⟨#[]⟩, .int .i64 0, .bool true, .bool false, .bool false] 26)) := heap_alloc_self _ _
  have hg4 : w.heap.size < w1.heap.size := by have := h1.gw.size; simp at this; omega
  have hg5 : g < w1.heap.size := by omega
  clear h1 hA hZ c1
  generalize w1.alloc (.cells #[.int .i64 0, .string ⟨#[]⟩, .int .i64 0, .bool true, .bool false, .bool false] 26) = wB at *
  generalize w1.heap.size = b4 at *
  have h1 := hB0.st.now
  go_wp2_with (first | (go_at_call 44; (with_reducible refine (countW_any h1).mono ?_); rintro e w1 ⟨rfl, h1⟩; have hc4 := (hT.keep h1 hg5).cells) | (go_at_call 36; (with_reducible refine (frac_0 h1).mono ?_); rintro e w1 ⟨rfl, h1⟩))
  go_wp2_with (first | (go_at_call 45; (with_reducible refine (expo_any h1).mono ?_); rintro e w1 ⟨rfl, h1⟩) | (go_at_call 16; (with_reducible refine (skip_any h1 _ hr4).mono ?_); rintro e w1 ⟨rfl, h1⟩) | (go_at_call 44; (with_reducible refine (countW_any h1).mono ?_); rintro e w1 ⟨rfl, h1⟩; have hc4 := (hT.keep h1 hg5).cells; have hcz := (hZ1.keep h1 hgo).cells))
  refine bodyPost_ret (v := Tok.val { kind := 0, int := 0, whole := false, sign := false }) ?_ rfl ⟨rfl, ?_⟩
  · simp [results, Try.results37, go_sem, hcz, Tok.val]
  · exact ((h1.since hB0).set (p := ⟨b4, 3, none⟩) (by show w0.heap.size ≤ b4; omega) (.bool false)).put6 hws _ _ _ _ _ _
set_option maxRecDepth 100000 in
set_option maxHeartbeats 1600000 in
theorem plain_000 (h : Now 38 g v xs r w0 w) (hl : 1 ≤ r.length) (hs : sgn r 0 = false) (hf : frac (cnt r) 0 = false) (hx : decide (0 < expo (cnt r)) = false) :
    Calls Try.prog 37 #[.pointer (some ⟨g, 0, none⟩)] w fun e w' => e = .returned (Tok.val { kind := 0, int := intV (nums (runesBytes (r.take (r.length - (cnt r).length)))), whole := true, sign := false }) ∧ Now 38 g v xs (cnt r) w0 w' := by
  have hgo := h.st.lt
  have hws := h.gw.size
  have hA := (h.alloc zeroT).st.now
  have hZ := TokB.zero w
  have c1 := hA.st.cell1
  have hxl := h.st.len
  have hrl := h.st.rlen
  have hr3 : (expo (cnt r) : Int) ≤ 0 := by simp at hx; omega
  go_enter Try.func37, Try.ntmps37
  go_wp2_with (go_at_call 35; (with_reducible refine (signed_0 hA).mono ?_); rintro e w1 ⟨rfl, h1⟩)
  have hB0 : Now 38 g v xs r w0 (w1.alloc (.cells #[.int .i64 0, .string ⟨#[]⟩, .int .i64 0, .bool true, .bool false, .bool false] 26)) := (h1.since (h.alloc zeroT)).alloc _
  have hZ1 := (hZ.keep h1 hgo).alloc (.cells #[.int .i64 0, .string ⟨#[]⟩, .int .i64 0, .bool true, .bool false, .bool false] 26)
  have hT : TokB w1.heap.size { kind := 0, whole := true, sign := false } (w1.alloc (.cells #[.int .i64 0, .string ⟨#[]⟩, .int .i64 0, .bool true, .bool false, .bool false] 26)) := heap_alloc_self _ _
  have hg4 : w.heap.size < w1.heap.size := by have := h1.gw.size; simp at this; omega
  have hg5 : g < w1.heap.size := by omega
  clear h1 hA hZ c1
  generalize w1.alloc (.cells #[.int .i64 0, .string ⟨#[]⟩, .int .i64 0, .bool true, .bool false, .bool false] 26) = wB at *
  generalize w1.heap.size = b4 at *
  have h1 := hB0.st.now
  go_wp2_with (first | (go_at_call 44; (with_reducible refine (countW_any h1).mono ?_); rintro e w1 ⟨rfl, h1⟩; have hc4 := (hT.keep h1 hg5).cells) | (go_at_call 36; (with_reducible refine (frac_0 h1).mono ?_); rintro e w1 ⟨rfl, h1⟩))
  go_wp2_with (go_at_call 45; (with_reducible refine (expo_any h1).mono ?_); rintro e w1 ⟨rfl, h1⟩; have hc4 := (hT.keep h1 hg5).cells; have hcz := (hZ1.keep h1 hgo).cells)
  have hq2 := cnt_suf r
  have hq3 : r <:+ r := List.suffix_refl r
  have hk1 := hq2.length_le
  have hk2 := hq3.length_le
  have hseg := h.st.seg (cnt r).length (by omega)
  have hrd := h1.st.rd
  have d0 := h1.st.cell0
  have d1 := h1.st.cell1
  obtain ⟨a, c, rfl, hle, hcell⟩ := hrd
  obtain ⟨b, off, rfl, hbl, hcc⟩ := hcell (by omega)
  have hcv := segConv b off c (xs.length - r.length) (xs.length - (cnt r).length) xs (by omega) (by omega) w1.drew hcc
  rw [hseg] at hcv
  have d2 : ({ heap := w1.heap, tape := w1.tape, drawn := w1.drawn + 1, os := w1.os, output := w1.output } : World).cell? ⟨g, 0, none⟩ = some (Value.slice (some ⟨b, off, none⟩) xs.length c) := d0
  have d3 : ({ heap := w1.heap, tape := w1.tape, drawn := w1.drawn + 1, os := w1.os, output := w1.output } : World).cell? ⟨g, 1, none⟩ = some (Value.int .i64 ((xs.length - (cnt r).length : Nat) : Int)) := d1
  have HSEG := Lib.hid hseg
  clear hseg hcell hcc
  have i1 : (0:Int) ≤ ((xs.length - r.length : Nat) : Int) := by omega
  have i2 : ((xs.length - r.length : Nat) : Int) ≤ ((xs.length - (cnt r).length : Nat) : Int) := by omega
  have i3 : ((xs.length - (cnt r).length : Nat) : Int) ≤ (c : Int) := by omega
  have hne : ¬ c = xs.length - r.length := by omega
  have hT9 : TokB b4 { kind := 0, whole := true, sign := false } w1.drew := hT.keep h1.drew hg5
  have hZ9 : TokB w.heap.size { kind := 0 } w1.drew := hZ1.keep h1.drew hgo
  have hN9 := (h1.since hB0).drew
  have hsz : (runesBytes (List.take (r.length - (cnt r).length) r)).size ≤ 1000000000 := by
    have e1 := runesBytes_size_le (List.take (r.length - (cnt r).length) r)
    have e2 : (List.take (r.length - (cnt r).length) r).length ≤ r.length := by rw [List.length_take]; omega
    omega
  clear hc4 hcz hT hZ1
  go_still_tail 11, (by kernel_rfl)
  change wpList _ _ _ _ _ w1.drew
  clear hcv d0 d1 d2 d3
  generalize w1.drew = w2 at *
  go_wp2_with (go_at_call 7; (with_reducible refine (int_any _ _ hsz).mono ?_); rintro e w3 ⟨rfl, hb3⟩; have h3 := hN9.st.now.below hb3; have hc4 := (hT9.keep h3 hg5).cells; have hcz := (hZ9.keep h3 hgo).cells)
  refine bodyPost_ret (v := Tok.val { kind := 0, int := intV (nums (runesBytes (r.take (r.length - (cnt r).length)))), whole := true, sign := false }) ?_ rfl ⟨rfl, ?_⟩
  · simp [results, Try.results37, go_sem, hcz, Tok.val]
  · exact ((h3.since hN9).set (p := ⟨b4, 2, none⟩) (by show w0.heap.size ≤ b4; omega) _).put6 hws _ _ _ _ _ _
end
end Go.Proofs.Ytlajkfnlkkgneaa
