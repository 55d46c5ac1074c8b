
import Derived.Test.YtfggpenfdfklkaaGreatTkI
namespace Go.Proofs.YtfggpenfdfklkaaGreat
open Go.RowKit
section
variable {g : Nat} {v : Value} {xs r : List Int} {w0 w : World}
set_option maxRecDepth 100000 in
set_option maxHeartbeats 1600000 in
theorem plain_111 (h : Now 80 g v xs r w0 w) (hl : 1 ≤ r.length) (hs : sgn r 0 = true) (hf : frac (cnt (dp 1 r)) 0 = true) (hx : decide (0 < expo (cnt (dp 1 (cnt (dp 1 r))))) = true) :
    Calls Tryz.prog 110 #[.pointer (some ⟨g, 0, none⟩)] w fun e w' => e = .returned (Tok.val { kind := 0, int := 0, whole := false, sign := true }) ∧ Now 80 g v xs (cnt (dp (expo (cnt (dp 1 (cnt (dp 1 r))))) (cnt (dp 1 (cnt (dp 1 r)))))) w0 w' := by
  have hgo := h.st.lt
  have hws := h.gw.size
  have hA := (h.alloc zeroT).st.now
  have hZ := TokB.zero w
  have c1 := hA.st.cell1
  have hxl := h.st.len
  have hrl := h.st.rlen
  have hr1 := hl
  have hr2 : 1 ≤ (cnt (dp 1 r)).length := frac_len hf
  have hr3 : 0 < expo (cnt (dp 1 (cnt (dp 1 r)))) := by simpa using hx
  have hr4 := expo_len (cnt (dp 1 (cnt (dp 1 r))))
  have hr5 : 0 < (expo (cnt (dp 1 (cnt (dp 1 r)))) : Int) := by omega
  go_enter Tryz.func110, Tryz.ntmps110
  go_wp2_with (go_at_call 107; (with_reducible refine (signed_0 hA).mono ?_); rintro e w1 ⟨rfl, h1⟩)
  have hB0 : Now 80 g v xs r w0 (w1.alloc (.cells #[.int .i64 0, .string ⟨#[]⟩, .int .i64 0, .bool true, .bool true, .bool false] 47)) := (h1.since (h.alloc zeroT)).alloc _
  have hZ1 := (hZ.keep h1 hgo).alloc (.cells #[.int .i64 0, .string ⟨#[]⟩, .int .i64 0, .bool true, .bool true, .bool false] 47)
  have hT : TokB w1.heap.size { kind := 0, whole := true, sign := true } (w1.alloc (.cells #[.int .i64 0, .string ⟨#[]⟩, .int .i64 0, .bool true, .bool true, .bool false] 47)) := heap_alloc_self _ _
  have hg4 : w.heap.size < w1.heap.size := by have := h1.gw.size; simp at this; omega
  have hg5 : g < w1.heap.size := by omega
  clear h1 hA hZ c1
  generalize w1.alloc (.cells #[.int .i64 0, .string ⟨#[]⟩, .int .i64 0, .bool true, .bool true, .bool false] 47) = wB at *
  generalize w1.heap.size = b4 at *
  have h1 := hB0.st.now
  go_wp2_with (first | (go_at_call 121; (with_reducible refine (countW_any h1).mono ?_); rintro e w1 ⟨rfl, h1⟩; have hc4 := (hT.keep h1 hg5).cells) | (go_at_call 109; (with_reducible refine (frac_0 h1).mono ?_); rintro e w1 ⟨rfl, h1⟩) | (go_at_call 72; (with_reducible refine (skip_1 h1 hr1).mono ?_); rintro e w1 ⟨rfl, h1⟩) | (go_at_call 72; (with_reducible refine (skip_1 h1 hr2).mono ?_); rintro e w1 ⟨rfl, h1⟩))
  have hS2 := (h1.since hB0).set (p := ⟨b4, 3, none⟩) (by show w0.heap.size ≤ b4; omega) (.bool false)
  have hT2 := (hT.keep h1 hg5).whole false
  have hZ20 := (hZ1.keep h1 hgo).other (p := ⟨b4, 3, none⟩) (by show w.heap.size ≠ b4; omega) (.bool false)
  clear hc4 h1
  generalize w1.setCell ⟨b4, 3, none⟩ (.bool false) = wC2 at *
  have h1 := hS2.st.now
  go_wp2_with (first | (go_at_call 122; (with_reducible refine (expo_any h1).mono ?_); rintro e w1 ⟨rfl, h1⟩) | (go_at_call 72; (with_reducible refine (skip_any h1 _ hr4).mono ?_); rintro e w1 ⟨rfl, h1⟩) | (go_at_call 121; (with_reducible refine (countW_any h1).mono ?_); rintro e w1 ⟨rfl, h1⟩; have hc4 := (hT2.keep h1 hg5).cells; have hcz := (hZ20.keep h1 hgo).cells))
  refine bodyPost_ret (v := Tok.val { kind := 0, int := 0, whole := false, sign := true }) ?_ rfl ⟨rfl, ?_⟩
  · simp [results, Tryz.results110, go_sem, hcz, Tok.val]
  · exact ((h1.since hS2).set (p := ⟨b4, 3, none⟩) (by show w0.heap.size ≤ b4; omega) (.bool false)).put6 hws _ _ _ _ _ _
set_option maxRecDepth 100000 in
set_option maxHeartbeats 1600000 in
theorem plain_110 (h : Now 80 g v xs r w0 w) (hl : 1 ≤ r.length) (hs : sgn r 0 = true) (hf : frac (cnt (dp 1 r)) 0 = true) (hx : decide (0 < expo (cnt (dp 1 (cnt (dp 1 r))))) = false) :
    Calls Tryz.prog 110 #[.pointer (some ⟨g, 0, none⟩)] w fun e w' => e = .returned (Tok.val { kind := 0, int := 0, whole := false, sign := true }) ∧ Now 80 g v xs (cnt (dp 1 (cnt (dp 1 r)))) w0 w' := by
  have hgo := h.st.lt
  have hws := h.gw.size
  have hA := (h.alloc zeroT).st.now
  have hZ := TokB.zero w
  have c1 := hA.st.cell1
  have hxl := h.st.len
  have hrl := h.st.rlen
  have hr1 := hl
  have hr2 : 1 ≤ (cnt (dp 1 r)).length := frac_len hf
  have hr3 : (expo (cnt (dp 1 (cnt (dp 1 r)))) : Int) ≤ 0 := by simp at hx; omega
  go_enter Tryz.func110, Tryz.ntmps110
  go_wp2_with (go_at_call 107; (with_reducible refine (signed_0 hA).mono ?_); rintro e w1 ⟨rfl, h1⟩)
  have hB0 : Now 80 g v xs r w0 (w1.alloc (.cells #[.int .i64 0, .string ⟨#[]⟩, .int .i64 0, .bool true, .bool true, .bool false] 47)) := (h1.since (h.alloc zeroT)).alloc _
  have hZ1 := (hZ.keep h1 hgo).alloc (.cells #[.int .i64 0, .string ⟨#[]⟩, .int .i64 0, .bool true, .bool true, .bool false] 47)
  have hT : TokB w1.heap.size { kind := 0, whole := true, sign := true } (w1.alloc (.cells #[.int .i64 0, .string ⟨#[]⟩, .int .i64 0, .bool true, .bool true, .bool false] 47)) := heap_alloc_self _ _
  have hg4 : w.heap.size < w1.heap.size := by have := h1.gw.size; simp at this; omega
  have hg5 : g < w1.heap.size := by omega
  clear h1 hA hZ c1
  generalize w1.alloc (.cells #[.int .i64 0, .string ⟨#[]⟩, .int .i64 0, .bool true, .bool true, .bool false] 47) = wB at *
  generalize w1.heap.size = b4 at *
  have h1 := hB0.st.now
  go_wp2_with (first | (go_at_call 121; (with_reducible refine (countW_any h1).mono ?_); rintro e w1 ⟨rfl, h1⟩; have hc4 := (hT.keep h1 hg5).cells) | (go_at_call 109; (with_reducible refine (frac_0 h1).mono ?_); rintro e w1 ⟨rfl, h1⟩) | (go_at_call 72; (with_reducible refine (skip_1 h1 hr1).mono ?_); rintro e w1 ⟨rfl, h1⟩) | (go_at_call 72; (with_reducible refine (skip_1 h1 hr2).mono ?_); rintro e w1 ⟨rfl, h1⟩))
  have hS2 := (h1.since hB0).set (p := ⟨b4, 3, none⟩) (by show w0.heap.size ≤ b4; omega) (.bool false)
  have hT2 := (hT.keep h1 hg5).whole false
  have hZ20 := (hZ1.keep h1 hgo).other (p := ⟨b4, 3, none⟩) (by show w.heap.size ≠ b4; omega) (.bool false)
  clear hc4 h1
  generalize w1.setCell ⟨b4, 3, none⟩ (.bool false) = wC2 at *
  have h1 := hS2.st.now
  go_wp2_with (go_at_call 122; (with_reducible refine (expo_any h1).mono ?_); rintro e w1 ⟨rfl, h1⟩; have hc4 := (hT2.keep h1 hg5).cells; have hcz := (hZ20.keep h1 hgo).cells)
  refine bodyPost_ret (v := Tok.val { kind := 0, int := 0, whole := false, sign := true }) ?_ rfl ⟨rfl, ?_⟩
  · simp [results, Tryz.results110, go_sem, hcz, Tok.val]
  · exact (h1.since hS2).put6 hws _ _ _ _ _ _
set_option maxRecDepth 100000 in
set_option maxHeartbeats 1600000 in
theorem plain_101 (h : Now 80 g v xs r w0 w) (hl : 1 ≤ r.length) (hs : sgn r 0 = true) (hf : frac (cnt (dp 1 r)) 0 = false) (hx : decide (0 < expo (cnt (dp 1 r))) = true) :
    Calls Tryz.prog 110 #[.pointer (some ⟨g, 0, none⟩)] w fun e w' => e = .returned (Tok.val { kind := 0, int := 0, whole := false, sign := true }) ∧ Now 80 g v xs (cnt (dp (expo (cnt (dp 1 r))) (cnt (dp 1 r)))) w0 w' := by
  have hgo := h.st.lt
  have hws := h.gw.size
  have hA := (h.alloc zeroT).st.now
  have hZ := TokB.zero w
  have c1 := hA.st.cell1
  have hxl := h.st.len
  have hrl := h.st.rlen
  have hr1 := hl
  have hr3 : 0 < expo (cnt (dp 1 r)) := by simpa using hx
  have hr4 := expo_len (cnt (dp 1 r))
  have hr5 : 0 < (expo (cnt (dp 1 r)) : Int) := by omega
  go_enter Tryz.func110, Tryz.ntmps110
  go_wp2_with (go_at_call 107; (with_reducible refine (signed_0 hA).mono ?_); rintro e w1 ⟨rfl, h1⟩)
  have hB0 : Now 80 g v xs r w0 (w1.alloc (.cells #[.int .i64 0, .string ⟨#[]⟩, .int .i64 0, .bool true, .bool true, .bool false] 47)) := (h1.since (h.alloc zeroT)).alloc _
  have hZ1 := (hZ.keep h1 hgo).alloc (.cells #[.int .i64 0, .string ⟨#[]⟩, .int .i64 0, .bool true, .bool true, .bool false] 47)
  have hT : TokB w1.heap.size { kind := 0, whole := true, sign := true } (w1.alloc (.cells #[.int .i64 0, .string ⟨#[]⟩, .int .i64 0, .bool true, .bool true, .bool false] 47)) := heap_alloc_self _ _
  have hg4 : w.heap.size < w1.heap.size := by have := h1.gw.size; simp at this; omega
  have hg5 : g < w1.heap.size := by omega
  clear h1 hA hZ c1
  generalize w1.alloc (.cells #[.int .i64 0, .string ⟨#[]⟩, .int .i64 0, .bool true, .bool true, .bool false] 47) = wB at *
  generalize w1.heap.size = b4 at *
  have h1 := hB0.st.now
  go_wp2_with (first | (go_at_call 121; (with_reducible refine (countW_any h1).mono ?_); rintro e w1 ⟨rfl, h1⟩; have hc4 := (hT.keep h1 hg5).cells) | (go_at_call 109; (with_reducible refine (frac_0 h1).mono ?_); rintro e w1 ⟨rfl, h1⟩) | (go_at_call 72; (with_reducible refine (skip_1 h1 hr1).mono ?_); rintro e w1 ⟨rfl, h1⟩))
  go_wp2_with (first | (go_at_call 122; (with_reducible refine (expo_any h1).mono ?_); rintro e w1 ⟨rfl, h1⟩) | (go_at_call 72; (with_reducible refine (skip_any h1 _ hr4).mono ?_); rintro e w1 ⟨rfl, h1⟩) | (go_at_call 121; (with_reducible refine (countW_any h1).mono ?_); rintro e w1 ⟨rfl, h1⟩; have hc4 := (hT.keep h1 hg5).cells; have hcz := (hZ1.keep h1 hgo).cells))
  refine bodyPost_ret (v := Tok.val { kind := 0, int := 0, whole := false, sign := true }) ?_ rfl ⟨rfl, ?_⟩
  · simp [results, Tryz.results110, go_sem, hcz, Tok.val]
  · exact ((h1.since hB0).set (p := ⟨b4, 3, none⟩) (by show w0.heap.size ≤ b4; omega) (.bool false)).put6 hws _ _ _ _ _ _
set_option maxRecDepth 100000 in
set_option maxHeartbeats 1600000 in
theorem plain_100 (h : Now 80 g v xs r w0 w) (hl : 1 ≤ r.length) (hs : sgn r 0 = true) (hf : frac (cnt (dp 1 r)) 0 = false) (hx : decide (0 < expo (cnt (dp 1 r))) = false) :
    Calls Tryz.prog 110 #[.pointer (some ⟨g, 0, none⟩)] w fun e w' => e = .returned (Tok.val { kind := 0, int := intV (nums (runesBytes (r.take (r.length - (cnt (dp 1 r)).length)))), whole := true, sign := true }) ∧ Now 80 g v xs (cnt (dp 1 r)) w0 w' := by
  have hgo := h.st.lt
  have hws := h.gw.size
  have hA := (h.alloc zeroT).st.now
  have hZ := TokB.zero w
  have c1 := hA.st.cell1
  have hxl := h.st.len
  have hrl := h.st.rlen
  have hr1 := hl
  have hr3 : (expo (cnt (dp 1 r)) : Int) ≤ 0 := by simp at hx; omega
  go_enter Tryz.func110, Tryz.ntmps110
  go_wp2_with (go_at_call 107; (with_reducible refine (signed_0 hA).mono ?_); rintro e w1 ⟨rfl, h1⟩)
  have hB0 : Now 80 g v xs r w0 (w1.alloc (.cells #[.int .i64 0, .string ⟨#[]⟩, .int .i64 0, .bool true, .bool true, .bool false] 47)) := (h1.since (h.alloc zeroT)).alloc _
  have hZ1 := (hZ.keep h1 hgo).alloc (.cells #[.int .i64 0, .string ⟨#[]⟩, .int .i64 0, .bool true, .bool true, .bool false] 47)
  have hT : TokB w1.heap.size { kind := 0, whole := true, sign := true } (w1.alloc (.cells #[.int .i64 0, .string ⟨#[]⟩, .int .i64 0, .bool true, .bool true, .bool false] 47)) := heap_alloc_self _ _
  have hg4 : w.heap.size < w1.heap.size := by have := h1.gw.size; simp at this; omega
  have hg5 : g < w1.heap.size := by omega
  clear h1 hA hZ c1
  generalize w1.alloc (.cells #[.int .i64 0, .string ⟨#[]⟩, .int .i64 0, .bool true, .bool true, .bool false] 47) = wB at *
  generalize w1.heap.size = b4 at *
  have h1 := hB0.st.now
  go_wp2_with (first | (go_at_call 121; (with_reducible refine (countW_any h1).mono ?_); rintro e w1 ⟨rfl, h1⟩; have hc4 := (hT.keep h1 hg5).cells) | (go_at_call 109; (with_reducible refine (frac_0 h1).mono ?_); rintro e w1 ⟨rfl, h1⟩) | (go_at_call 72; (with_reducible refine (skip_1 h1 hr1).mono ?_); rintro e w1 ⟨rfl, h1⟩))
  go_wp2_with (go_at_call 122; (with_reducible refine (expo_any h1).mono ?_); rintro e w1 ⟨rfl, h1⟩; have hc4 := (hT.keep h1 hg5).cells; have hcz := (hZ1.keep h1 hgo).cells)
  have hq2 := cnt_suf (dp 1 r)
  have hq3 : (dp 1 r) <:+ r := dp_suf 1 r
  have hk1 := hq2.length_le
  have hk2 := hq3.length_le
  have hseg := h.st.seg (cnt (dp 1 r)).length (by omega)
  have hrd := h1.st.rd
  have d0 := h1.st.cell0
  have d1 := h1.st.cell1
  obtain ⟨a, c, rfl, hle, hcell⟩ := hrd
  obtain ⟨b, off, rfl, hbl, hcc⟩ := hcell (by omega)
  have hcv := segConv b off c (xs.length - r.length) (xs.length - (cnt (dp 1 r)).length) xs (by omega) (by omega) w1.drew hcc
  rw [hseg] at hcv
  have d2 : ({ heap := w1.heap, tape := w1.tape, drawn := w1.drawn + 1, os := w1.os, output := w1.output } : World).cell? ⟨g, 0, none⟩ = some (Value.slice (some ⟨b, off, none⟩) xs.length c) := d0
  have d3 : ({ heap := w1.heap, tape := w1.tape, drawn := w1.drawn + 1, os := w1.os, output := w1.output } : World).cell? ⟨g, 1, none⟩ = some (Value.int .i64 ((xs.length - (cnt (dp 1 r)).length : Nat) : Int)) := d1
  have HSEG := Lib.hid hseg
  clear hseg hcell hcc
  have i1 : (0:Int) ≤ ((xs.length - r.length : Nat) : Int) := by omega
  have i2 : ((xs.length - r.length : Nat) : Int) ≤ ((xs.length - (cnt (dp 1 r)).length : Nat) : Int) := by omega
  have i3 : ((xs.length - (cnt (dp 1 r)).length : Nat) : Int) ≤ (c : Int) := by omega
  have hne : ¬ c = xs.length - r.length := by omega
  have hT9 : TokB b4 { kind := 0, whole := true, sign := true } w1.drew := hT.keep h1.drew hg5
  have hZ9 : TokB w.heap.size { kind := 0 } w1.drew := hZ1.keep h1.drew hgo
  have hN9 := (h1.since hB0).drew
  have hsz : (runesBytes (List.take (r.length - (cnt (dp 1 r)).length) r)).size ≤ 1000000000 := by
    have e1 := runesBytes_size_le (List.take (r.length - (cnt (dp 1 r)).length) r)
    have e2 : (List.take (r.length - (cnt (dp 1 r)).length) r).length ≤ r.length := by rw [List.length_take]; omega
    omega
  clear hc4 hcz hT hZ1
  go_still_tail 11, (by kernel_rfl)
  change wpList _ _ _ _ _ w1.drew
  clear hcv d0 d1 d2 d3
  generalize w1.drew = w2 at *
  go_wp2_with (go_at_call 123; (with_reducible refine (int_any _ _ hsz).mono ?_); rintro e w3 ⟨rfl, hb3⟩; have h3 := hN9.st.now.below hb3; have hc4 := (hT9.keep h3 hg5).cells; have hcz := (hZ9.keep h3 hgo).cells)
  refine bodyPost_ret (v := Tok.val { kind := 0, int := intV (nums (runesBytes (r.take (r.length - (cnt (dp 1 r)).length)))), whole := true, sign := true }) ?_ rfl ⟨rfl, ?_⟩
  · simp [results, Tryz.results110, go_sem, hcz, Tok.val]
  · exact ((h3.since hN9).set (p := ⟨b4, 2, none⟩) (by show w0.heap.size ≤ b4; omega) _).put6 hws _ _ _ _ _ _
set_option maxRecDepth 100000 in
set_option maxHeartbeats 1600000 in
theorem plain_011 (h : Now 80 g v xs r w0 w) (_ : 1 ≤ r.length) (hs : sgn r 0 = false) (hf : frac (cnt r) 0 = true) (hx : decide (0 < expo (cnt (dp 1 (cnt r)))) = true) :
    Calls Tryz.prog 110 #[.pointer (some ⟨g, 0, none⟩)] w fun e w' => e = .returned (Tok.val { kind := 0, int := 0, whole := false, sign := false }) ∧ Now 80 g v xs (cnt (dp (expo (cnt (dp 1 (cnt r)))) (cnt (dp 1 (cnt r))))) w0 w' := by
  have hgo := h.st.lt
  have hws := h.gw.size
  have hA := (h.alloc zeroT).st.now
  have hZ := TokB.zero w
  have c1 := hA.st.cell1
  have hxl := h.st.len
  have hrl := h.st.rlen
  have hr2 : 1 ≤ (cnt r).length := frac_len hf
  have hr3 : 0 < expo (cnt (dp 1 (cnt r))) := by simpa using hx
  have hr4 := expo_len (cnt (dp 1 (cnt r)))
  have hr5 : 0 < (expo (cnt (dp 1 (cnt r))) : Int) := by omega
  go_enter Tryz.func110, Tryz.ntmps110
  go_wp2_with (go_at_call 107; (with_reducible refine (signed_0 hA).mono ?_); rintro e w1 ⟨rfl, h1⟩)
  have hB0 : Now 80 g v xs r w0 (w1.alloc (.cells #[.int .i64 0, .string ⟨#[]⟩, .int .i64 0, .bool true, .bool false, .bool false] 47)) := (h1.since (h.alloc zeroT)).alloc _
  have hZ1 := (hZ.keep h1 hgo).alloc (.cells #[.int .i64 0, .string ⟨#[]⟩, .int .i64 0, .bool true, .bool false, .bool false] 47)
  have hT : TokB w1.heap.size { kind := 0, whole := true, sign := false } (w1.alloc (.cells #[.int .i64 0, .string ⟨#[]⟩, .int .i64 0, .bool true, .bool false, .bool false] 47)) := heap_alloc_self _ _
  have hg4 : w.heap.size < w1.heap.size := by have := h1.gw.size; simp at this; omega
  have hg5 : g < w1.heap.size := by omega
  clear h1 hA hZ c1
  generalize w1.alloc (.cells #[.int .i64 0, .string ⟨#[]⟩, .int .i64 0, .bool true, .bool false, .bool false] 47) = wB at *
  generalize w1.heap.size = b4 at *
  have h1 := hB0.st.now
  go_wp2_with (first | (go_at_call 121; (with_reducible refine (countW_any h1).mono ?_); rintro e w1 ⟨rfl, h1⟩; have hc4 := (hT.keep h1 hg5).cells) | (go_at_call 109; (with_reducible refine (frac_0 h1).mono ?_); rintro e w1 ⟨rfl, h1⟩) | (go_at_call 72; (with_reducible refine (skip_1 h1 hr2).mono ?_); rintro e w1 ⟨rfl, h1⟩))
  have hS2 := (h1.since hB0).set (p := ⟨b4, 3, none⟩) (by show w0.heap.size ≤ b4; omega) (.bool false)
  have hT2 := (hT.keep h1 hg5).whole false
  have hZ20 := (hZ1.keep h1 hgo).other (p := ⟨b4, 3, none⟩) (by show w.heap.size ≠ b4; omega) (.bool false)
  clear hc4 h1
  generalize w1.setCell ⟨b4, 3, none⟩ (.bool false) = wC2 at *
  have h1 := hS2.st.now
  go_wp2_with (first | (go_at_call 122; (with_reducible refine (expo_any h1).mono ?_); rintro e w1 ⟨rfl, h1⟩) | (go_at_call 72; (with_reducible refine (skip_any h1 _ hr4).mono ?_); rintro e w1 ⟨rfl, h1⟩) | (go_at_call 121; (with_reducible refine (countW_any h1).mono ?_); rintro e w1 ⟨rfl, h1⟩; have hc4 := (hT2.keep h1 hg5).cells; have hcz := (hZ20.keep h1 hgo).cells))
  refine bodyPost_ret (v := Tok.val { kind := 0, int := 0, whole := false, sign := false }) ?_ rfl ⟨rfl, ?_⟩
  · simp [results, Tryz.results110, go_sem, hcz, Tok.val]
  · exact ((h1.since hS2).set (p := ⟨b4, 3, none⟩) (by show w0.heap.size ≤ b4; omega) (.bool false)).put6 hws _ _ _ _ _ _
set_option maxRecDepth 100000 in
set_option maxHeartbeats 1600000 in
theorem plain_010 (h : Now 80 g v xs r w0 w) (_ : 1 ≤ r.length) (hs : sgn r 0 = false) (hf : frac (cnt r) 0 = true) (hx : decide (0 < expo (cnt (dp 1 (cnt r)))) = false) :
    Calls Tryz.prog 110 #[.pointer (some ⟨g, 0, none⟩)] w fun e w' => e = .returned (Tok.val { kind := 0, int := 0, whole := false, sign := false }) ∧ Now 80 g v xs (cnt (dp 1 (cnt r))) w0 w' := by
  have hgo := h.st.lt
  have hws := h.gw.size
  have hA := (h.alloc zeroT).st.now
  have hZ := TokB.zero w
  have c1 := hA.st.cell1
  have hxl := h.st.len
  have hrl := h.st.rlen
  have hr2 : 1 ≤ (cnt r).length := frac_len hf
  have hr3 : (expo (cnt (dp 1 (cnt r))) : Int) ≤ 0 := by simp at hx; omega
  go_enter Tryz.func110, Tryz.ntmps110
  go_wp2_with (go_at_call 107; (with_reducible refine (signed_0 hA).mono ?_); rintro e w1 ⟨rfl, h1⟩)
  have hB0 : Now 80 g v xs r w0 (w1.alloc (.cells #[.int .i64 0, .string ⟨#[]⟩, .int .i64 0, .bool true, .bool false, .bool false] 47)) := (h1.since (h.alloc zeroT)).alloc _
  have hZ1 := (hZ.keep h1 hgo).alloc (.cells #[.int .i64 0, .string ⟨#[]⟩, .int .i64 0, .bool true, .bool false, .bool false] 47)
  have hT : TokB w1.heap.size { kind := 0, whole := true, sign := false } (w1.alloc (.cells #[.int .i64 0, .string ⟨#[]⟩, .int .i64 0, .bool true, .bool false, .bool false] 47)) := heap_alloc_self _ _
  have hg4 : w.heap.size < w1.heap.size := by have := h1.gw.size; simp at this; omega
  have hg5 : g < w1.heap.size := by omega
  clear h1 hA hZ c1
  generalize w1.alloc (.cells #[.int .i64 0, .string ⟨#[]⟩, .int .i64 0, .bool true, .bool false, .bool false] 47) = wB at *
  generalize w1.heap.size = b4 at *
  have h1 := hB0.st.now
  go_wp2_with (first | (go_at_call 121; (with_reducible refine (countW_any h1).mono ?_); rintro e w1 ⟨rfl, h1⟩; have hc4 := (hT.keep h1 hg5).cells) | (go_at_call 109; (with_reducible refine (frac_0 h1).mono ?_); rintro e w1 ⟨rfl, h1⟩) | (go_at_call 72; (with_reducible refine (skip_1 h1 hr2).mono ?_); rintro e w1 ⟨rfl, h1⟩))
  have hS2 := (h1.since hB0).set (p := ⟨b4, 3, none⟩) (by show w0.heap.size ≤ b4; omega) (.bool false)
  have hT2 := (hT.keep h1 hg5).whole false
  have hZ20 := (hZ1.keep h1 hgo).other (p := ⟨b4, 3, none⟩) (by show w.heap.size ≠ b4; omega) (.bool false)
  clear hc4 h1
  generalize w1.setCell ⟨b4, 3, none⟩ (.bool false) = wC2 at *
  have h1 := hS2.st.now
  go_wp2_with (go_at_call 122; (with_reducible refine (expo_any h1).mono ?_); rintro e w1 ⟨rfl, h1⟩; have hc4 := (hT2.keep h1 hg5).cells; have hcz := (hZ20.keep h1 hgo).cells)
  refine bodyPost_ret (v := Tok.val { kind := 0, int := 0, whole := false, sign := false }) ?_ rfl ⟨rfl, ?_⟩
  · simp [results, Tryz.results110, go_sem, hcz, Tok.val]
  · exact (h1.since hS2).put6 hws _ _ _ _ _ _
set_option maxRecDepth 100000 in
set_option maxHeartbeats 1600000 in
theorem plain_001 (h : Now 80 g v xs r w0 w) (_ : 1 ≤ r.length) (hs : sgn r 0 = false) (hf : frac (cnt r) 0 = false) (hx : decide (0 < expo (cnt r)) = true) :
    Calls Tryz.prog 110 #[.pointer (some ⟨g, 0, none⟩)] w fun e w' => e = .returned (Tok.val { kind := 0, int := 0, whole := false, sign := false }) ∧ Now 80 g v xs (cnt (dp (expo (cnt r)) (cnt r))) w0 w' := by
  have hgo := h.st.lt
  have hws := h.gw.size
  have hA := (h.alloc zeroT).st.now
  have hZ := TokB.zero w
  have c1 := hA.st.cell1
  have hxl := h.st.len
  have hrl := h.st.rlen
  have hr3 : 0 < expo (cnt r) := by simpa using hx
  have hr4 := expo_len (cnt r)
  have hr5 : 0 < (expo (cnt r) : Int) := by omega
  go_enter Tryz.func110, Tryz.ntmps110
  go_wp2_with (go_at_call 107; (with_reducible refine (signed_0 hA).mono ?_); rintro e w1 ⟨rfl, h1⟩)
  have hB0 : Now 80 g v xs r w0 (w1.alloc (.cells #[.int .i64 0, .string ⟨#[]⟩, .int .i64 0, .bool true, .bool false, .bool false] 47)) := (h1.since (h.alloc zeroT)).alloc _
  have hZ1 := (hZ.keep h1 hgo).alloc (.cells #[.int .i64 0, .string ⟨#[]⟩, .int .i64 0, .bool true, .bool false, .bool false] 47)
  have hT : TokB w1.heap.size { kind := 0, whole := true, sign := false } (w1.alloc (.cells #[.int .i64 0, .string ⟨#[]⟩, .int .i64 0, .bool true, .bool false, .bool false] 47)) := heap_alloc_self _ _
  have hg4 : w.heap.size < w1.heap.size := by have := h1.gw.size; simp at this; omega
  have hg5 : g < w1.heap.size := by omega
  clear h1 hA hZ c1
  generalize w1.alloc (.cells #[.int .i64 0, .string ⟨#[]⟩, .int .i64 0, .bool true, .bool false, .bool false] 47) = wB at *
  generalize w1.heap.size = b4 at *
  have h1 := hB0.st.now
  go_wp2_with (first | (go_at_call 121; (with_reducible refine (countW_any h1).mono ?_); rintro e w1 ⟨rfl, h1⟩; have hc4 := (hT.keep h1 hg5).cells) | (go_at_call 109; (with_reducible refine (frac_0 h1).mono ?_); rintro e w1 ⟨rfl, h1⟩))
  go_wp2_with (first | (go_at_call 122; (with_reducible refine (expo_any h1).mono ?_); rintro e w1 ⟨rfl, h1⟩) | (go_at_call 72; (with_reducible refine (skip_any h1 _ hr4).mono ?_); rintro e w1 ⟨rfl, h1⟩) | (go_at_call 121; (with_reducible refine (countW_any h1).mono ?_); rintro e w1 ⟨rfl, h1⟩; have hc4 := (hT.keep h1 hg5).cells; have hcz := (hZ1.keep h1 hgo).cells))
  refine bodyPost_ret (v := Tok.val { kind := 0, int := 0, whole := false, sign := false }) ?_ rfl ⟨rfl, ?_⟩
  · simp [results, Tryz.results110, go_sem, hcz, Tok.val]
  · exact ((h1.since hB0).set (p := ⟨b4, 3, none⟩) (by show w0.heap.size ≤ b4; omega) (.bool false)).put6 hws _ _ _ _ _ _
set_option maxRecDepth 100000 in
set_option maxHeartbeats 1600000 in
theorem plain_000 (h : Now 80 g v xs r w0 w) (hl : 1 ≤ r.length) (hs : sgn r 0 = false) (hf : frac (cnt r) 0 = false) (hx : decide (0 < expo (cnt r)) = false) :
    Calls Tryz.prog 110 #[.pointer (some ⟨g, 0, none⟩)] w fun e w' => e = .returned (Tok.val { kind := 0, int := intV (nums (runesBytes (r.take (r.length - (cnt r).length)))), whole := true, sign := false }) ∧ Now 80 g v xs (cnt r) w0 w' := by
  have hgo := h.st.lt
  have hws := h.gw.size
  have hA := (h.alloc zeroT).st.now
  have hZ := TokB.zero w
  have c1 := hA.st.cell1
  have hxl := h.st.len
  have hrl := h.st.rlen
  have hr3 : (expo (cnt r) : Int) ≤ 0 := by simp at hx; omega
  go_enter Tryz.func110, Tryz.ntmps110
  go_wp2_with (go_at_call 107; (with_reducible refine (signed_0 hA).mono ?_); rintro e w1 ⟨rfl, h1⟩)
  have hB0 : Now 80 g v xs r w0 (w1.alloc (.cells #[.int .i64 0, .string ⟨#[]⟩, .int .i64 0, .bool true, .bool false, .bool false] 47)) := (h1.since (h.alloc zeroT)).alloc _
  have hZ1 := (hZ.keep h1 hgo).alloc (.cells #[.int .i64 0, .string ⟨#[]⟩, .int .i64 0, .bool true, .bool false, .bool false] 47)
  have hT : TokB w1.heap.size { kind := 0, whole := true, sign := false } (w1.alloc (.cells #[.int .i64 0, .string ⟨#[]⟩, .int .i64 0, .bool true, .bool false, .bool false] 47)) := heap_alloc_self _ _
  have hg4 : w.heap.size < w1.heap.size := by have := h1.gw.size; simp at this; omega
  have hg5 : g < w1.heap.size := by omega
  clear h1 hA hZ c1
  generalize w1.alloc (.cells #[.int .i64 0, .string ⟨#[]⟩, .int .i64 0, .bool true, .bool false, .bool false] 47) = wB at *
  generalize w1.heap.size = b4 at *
  have h1 := hB0.st.now
  go_wp2_with (first | (go_at_call 121; (with_reducible refine (countW_any h1).mono ?_); rintro e w1 ⟨rfl, h1⟩; have hc4 := (hT.keep h1 hg5).cells) | (go_at_call 109; (with_reducible refine (frac_0 h1).mono ?_); rintro e w1 ⟨rfl, h1⟩))
  go_wp2_with (go_at_call 122; (with_reducible refine (expo_any h1).mono ?_); rintro e w1 ⟨rfl, h1⟩; have hc4 := (hT.keep h1 hg5).cells; have hcz := (hZ1.keep h1 hgo).cells)
  have hq2 := cnt_suf r
  have hq3 : r <:+ r := List.suffix_refl r
  have hk1 := hq2.length_le
  have hk2 := hq3.length_le
  have hseg := h.st.seg (cnt r).length (by omega)
  have hrd := h1.st.rd
  have d0 := h1.st.cell0
  have d1 := h1.st.cell1
  obtain ⟨a, c, rfl, hle, hcell⟩ := hrd
  obtain ⟨b, off, rfl, hbl, hcc⟩ := hcell (by omega)
  have hcv := segConv b off c (xs.length - r.length) (xs.length - (cnt r).length) xs (by omega) (by omega) w1.drew hcc
  rw [hseg] at hcv
  have d2 : ({ heap := w1.heap, tape := w1.tape, drawn := w1.drawn + 1, os := w1.os, output := w1.output } : World).cell? ⟨g, 0, none⟩ = some (Value.slice (some ⟨b, off, none⟩) xs.length c) := d0
  have d3 : ({ heap := w1.heap, tape := w1.tape, drawn := w1.drawn + 1, os := w1.os, output := w1.output } : World).cell? ⟨g, 1, none⟩ = some (Value.int .i64 ((xs.length - (cnt r).length : Nat) : Int)) := d1
  have HSEG := Lib.hid hseg
  clear hseg hcell hcc
  have i1 : (0:Int) ≤ ((xs.length - r.length : Nat) : Int) := by omega
  have i2 : ((xs.length - r.length : Nat) : Int) ≤ ((xs.length - (cnt r).length : Nat) : Int) := by omega
  have i3 : ((xs.length - (cnt r).length : Nat) : Int) ≤ (c : Int) := by omega
  have hne : ¬ c = xs.length - r.length := by omega
  have hT9 : TokB b4 { kind := 0, whole := true, sign := false } w1.drew := hT.keep h1.drew hg5
  have hZ9 : TokB w.heap.size { kind := 0 } w1.drew := hZ1.keep h1.drew hgo
  have hN9 := (h1.since hB0).drew
  have hsz : (runesBytes (List.take (r.length - (cnt r).length) r)).size ≤ 1000000000 := by
    have e1 := runesBytes_size_le (List.take (r.length - (cnt r).length) r)
    have e2 : (List.take (r.length - (cnt r).length) r).length ≤ r.length := by rw [List.length_take]; omega
    omega
  clear hc4 hcz hT hZ1
  go_still_tail 11, (by kernel_rfl)
  change wpList _ _ _ _ _ w1.drew
  clear hcv d0 d1 d2 d3
  generalize w1.drew = w2 at *
  go_wp2_with (go_at_call 123; (with_reducible refine (int_any _ _ hsz).mono ?_); rintro e w3 ⟨rfl, hb3⟩; have h3 := hN9.st.now.below hb3; have hc4 := (hT9.keep h3 hg5).cells; have hcz := (hZ9.keep h3 hgo).cells)
  refine bodyPost_ret (v := Tok.val { kind := 0, int := intV (nums (runesBytes (r.take (r.length - (cnt r).length)))), whole := true, sign := false }) ?_ rfl ⟨rfl, ?_⟩
  · simp [results, Tryz.results110, go_sem, hcz, Tok.val]
  · exact ((h3.since hN9).set (p := ⟨b4, 2, none⟩) (by show w0.heap.size ≤ b4; omega) _).put6 hws _ _ _ _ _ _
end
end Go.Proofs.YtfggpenfdfklkaaGreat
namespace Go.Proofs.YtfggpenfdfklkaaGreat
open Go.RowKit
section
variable {g : Nat} {v : Value} {xs r : List Int} {w0 w : World}
theorem plainAny_111 (h : Now 80 g v xs r w0 w) (hl : 1 ≤ r.length) (hs : sgn r 0 = true) (hf : frac (num2 r) 0 = true) (hx : decide (0 < expo (num3 r)) = true) :
    Calls Tryz.prog 110 #[.pointer (some ⟨g, 0, none⟩)] w fun e w' => e = .returned (plainT r).val ∧ Now 80 g v xs (num4 r) w0 w' := by
  have e1 : num1 r = (dp 1 r) := by unfold num1; rw [hs]; rfl
  have e2 : num2 r = (cnt (dp 1 r)) := by unfold num2; rw [e1]
  rw [e2] at hf
  have e3 : num3 r = (cnt (dp 1 (cnt (dp 1 r)))) := by unfold num3; rw [e2, hf]; rfl
  rw [e3] at hx
  have hx2 := hx
  simp only [decide_eq_true_eq] at hx2
  have e4 : num4 r = (cnt (dp (expo (cnt (dp 1 (cnt (dp 1 r))))) (cnt (dp 1 (cnt (dp 1 r)))))) := by unfold num4; rw [e3, if_pos hx2]
  have e5 : numW r = false := by
    unfold numW
    rw [e2, e3, hf]
    have : decide (expo (cnt (dp 1 (cnt (dp 1 r)))) = 0) = false := by simp; omega
    rw [this]; rfl
  have e6 : plainT r = { kind := 0, int := 0, whole := false, sign := true } := by unfold plainT; rw [e5, hs]; rfl
  rw [e6, e4]
  exact plain_111 h hl hs hf hx
theorem plainAny_110 (h : Now 80 g v xs r w0 w) (hl : 1 ≤ r.length) (hs : sgn r 0 = true) (hf : frac (num2 r) 0 = true) (hx : decide (0 < expo (num3 r)) = false) :
    Calls Tryz.prog 110 #[.pointer (some ⟨g, 0, none⟩)] w fun e w' => e = .returned (plainT r).val ∧ Now 80 g v xs (num4 r) w0 w' := by
  have e1 : num1 r = (dp 1 r) := by unfold num1; rw [hs]; rfl
  have e2 : num2 r = (cnt (dp 1 r)) := by unfold num2; rw [e1]
  rw [e2] at hf
  have e3 : num3 r = (cnt (dp 1 (cnt (dp 1 r)))) := by unfold num3; rw [e2, hf]; rfl
  rw [e3] at hx
  have hx2 := hx
  simp only [decide_eq_false_iff_not] at hx2
  have e4 : num4 r = (cnt (dp 1 (cnt (dp 1 r)))) := by unfold num4; rw [e3, if_neg hx2]
  have e5 : numW r = false := by
    unfold numW
    rw [e2, e3, hf]
    have : decide (expo (cnt (dp 1 (cnt (dp 1 r)))) = 0) = true := by simp; omega
    rw [this]; rfl
  have e6 : plainT r = { kind := 0, int := 0, whole := false, sign := true } := by unfold plainT; rw [e5, hs]; rfl
  rw [e6, e4]
  exact plain_110 h hl hs hf hx
theorem plainAny_101 (h : Now 80 g v xs r w0 w) (hl : 1 ≤ r.length) (hs : sgn r 0 = true) (hf : frac (num2 r) 0 = false) (hx : decide (0 < expo (num3 r)) = true) :
    Calls Tryz.prog 110 #[.pointer (some ⟨g, 0, none⟩)] w fun e w' => e = .returned (plainT r).val ∧ Now 80 g v xs (num4 r) w0 w' := by
  have e1 : num1 r = (dp 1 r) := by unfold num1; rw [hs]; rfl
  have e2 : num2 r = (cnt (dp 1 r)) := by unfold num2; rw [e1]
  rw [e2] at hf
  have e3 : num3 r = (cnt (dp 1 r)) := by unfold num3; rw [e2, hf]; rfl
  rw [e3] at hx
  have hx2 := hx
  simp only [decide_eq_true_eq] at hx2
  have e4 : num4 r = (cnt (dp (expo (cnt (dp 1 r))) (cnt (dp 1 r)))) := by unfold num4; rw [e3, if_pos hx2]
  have e5 : numW r = false := by
    unfold numW
    rw [e2, e3, hf]
    have : decide (expo (cnt (dp 1 r)) = 0) = false := by simp; omega
    rw [this]; rfl
  have e6 : plainT r = { kind := 0, int := 0, whole := false, sign := true } := by unfold plainT; rw [e5, hs]; rfl
  rw [e6, e4]
  exact plain_101 h hl hs hf hx
theorem plainAny_100 (h : Now 80 g v xs r w0 w) (hl : 1 ≤ r.length) (hs : sgn r 0 = true) (hf : frac (num2 r) 0 = false) (hx : decide (0 < expo (num3 r)) = false) :
    Calls Tryz.prog 110 #[.pointer (some ⟨g, 0, none⟩)] w fun e w' => e = .returned (plainT r).val ∧ Now 80 g v xs (num4 r) w0 w' := by
  have e1 : num1 r = (dp 1 r) := by unfold num1; rw [hs]; rfl
  have e2 : num2 r = (cnt (dp 1 r)) := by unfold num2; rw [e1]
  rw [e2] at hf
  have e3 : num3 r = (cnt (dp 1 r)) := by unfold num3; rw [e2, hf]; rfl
  rw [e3] at hx
  have hx2 := hx
  simp only [decide_eq_false_iff_not] at hx2
  have e4 : num4 r = (cnt (dp 1 r)) := by unfold num4; rw [e3, if_neg hx2]
  have e5 : numW r = true := by
    unfold numW
    rw [e2, e3, hf]
    have : decide (expo (cnt (dp 1 r)) = 0) = true := by simp; omega
    rw [this]; rfl
  have e6 : plainT r = { kind := 0, int := intV (nums (runesBytes (r.take (r.length - (cnt (dp 1 r)).length)))), whole := true, sign := true } := by unfold plainT; rw [e5, hs, e2]; rfl
  rw [e6, e4]
  exact plain_100 h hl hs hf hx
theorem plainAny_011 (h : Now 80 g v xs r w0 w) (hl : 1 ≤ r.length) (hs : sgn r 0 = false) (hf : frac (num2 r) 0 = true) (hx : decide (0 < expo (num3 r)) = true) :
    Calls Tryz.prog 110 #[.pointer (some ⟨g, 0, none⟩)] w fun e w' => e = .returned (plainT r).val ∧ Now 80 g v xs (num4 r) w0 w' := by
  have e1 : num1 r = r := by unfold num1; rw [hs]; rfl
  have e2 : num2 r = (cnt r) := by unfold num2; rw [e1]
  rw [e2] at hf
  have e3 : num3 r = (cnt (dp 1 (cnt r))) := by unfold num3; rw [e2, hf]; rfl
  rw [e3] at hx
  have hx2 := hx
  simp only [decide_eq_true_eq] at hx2
  have e4 : num4 r = (cnt (dp (expo (cnt (dp 1 (cnt r)))) (cnt (dp 1 (cnt r))))) := by unfold num4; rw [e3, if_pos hx2]
  have e5 : numW r = false := by
    unfold numW
    rw [e2, e3, hf]
    have : decide (expo (cnt (dp 1 (cnt r))) = 0) = false := by simp; omega
    rw [this]; rfl
  have e6 : plainT r = { kind := 0, int := 0, whole := false, sign := false } := by unfold plainT; rw [e5, hs]; rfl
  rw [e6, e4]
  exact plain_011 h hl hs hf hx
theorem plainAny_010 (h : Now 80 g v xs r w0 w) (hl : 1 ≤ r.length) (hs : sgn r 0 = false) (hf : frac (num2 r) 0 = true) (hx : decide (0 < expo (num3 r)) = false) :
    Calls Tryz.prog 110 #[.pointer (some ⟨g, 0, none⟩)] w fun e w' => e = .returned (plainT r).val ∧ Now 80 g v xs (num4 r) w0 w' := by
  have e1 : num1 r = r := by unfold num1; rw [hs]; rfl
  have e2 : num2 r = (cnt r) := by unfold num2; rw [e1]
  rw [e2] at hf
  have e3 : num3 r = (cnt (dp 1 (cnt r))) := by unfold num3; rw [e2, hf]; rfl
  rw [e3] at hx
  have hx2 := hx
  simp only [decide_eq_false_iff_not] at hx2
  have e4 : num4 r = (cnt (dp 1 (cnt r))) := by unfold num4; rw [e3, if_neg hx2]
  have e5 : numW r = false := by
    unfold numW
    rw [e2, e3, hf]
    have : decide (expo (cnt (dp 1 (cnt r))) = 0) = true := by simp; omega
    rw [this]; rfl
  have e6 : plainT r = { kind := 0, int := 0, whole := false, sign := false } := by unfold plainT; rw [e5, hs]; rfl
  rw [e6, e4]
  exact plain_010 h hl hs hf hx
theorem plainAny_001 (h : Now 80 g v xs r w0 w) (hl : 1 ≤ r.length) (hs : sgn r 0 = false) (hf : frac (num2 r) 0 = false) (hx : decide (0 < expo (num3 r)) = true) :
    Calls Tryz.prog 110 #[.pointer (some ⟨g, 0, none⟩)] w fun e w' => e = .returned (plainT r).val ∧ Now 80 g v xs (num4 r) w0 w' := by
  have e1 : num1 r = r := by unfold num1; rw [hs]; rfl
  have e2 : num2 r = (cnt r) := by unfold num2; rw [e1]
  rw [e2] at hf
  have e3 : num3 r = (cnt r) := by unfold num3; rw [e2, hf]; rfl
  rw [e3] at hx
  have hx2 := hx
  simp only [decide_eq_true_eq] at hx2
  have e4 : num4 r = (cnt (dp (expo (cnt r)) (cnt r))) := by unfold num4; rw [e3, if_pos hx2]
  have e5 : numW r = false := by
    unfold numW
    rw [e2, e3, hf]
    have : decide (expo (cnt r) = 0) = false := by simp; omega
    rw [this]; rfl
  have e6 : plainT r = { kind := 0, int := 0, whole := false, sign := false } := by unfold plainT; rw [e5, hs]; rfl
  rw [e6, e4]
  exact plain_001 h hl hs hf hx
theorem plainAny_000 (h : Now 80 g v xs r w0 w) (hl : 1 ≤ r.length) (hs : sgn r 0 = false) (hf : frac (num2 r) 0 = false) (hx : decide (0 < expo (num3 r)) = false) :
    Calls Tryz.prog 110 #[.pointer (some ⟨g, 0, none⟩)] w fun e w' => e = .returned (plainT r).val ∧ Now 80 g v xs (num4 r) w0 w' := by
  have e1 : num1 r = r := by unfold num1; rw [hs]; rfl
  have e2 : num2 r = (cnt r) := by unfold num2; rw [e1]
  rw [e2] at hf
  have e3 : num3 r = (cnt r) := by unfold num3; rw [e2, hf]; rfl
  rw [e3] at hx
  have hx2 := hx
  simp only [decide_eq_false_iff_not] at hx2
  have e4 : num4 r = (cnt r) := by unfold num4; rw [e3, if_neg hx2]
  have e5 : numW r = true := by
    unfold numW
    rw [e2, e3, hf]
    have : decide (expo (cnt r) = 0) = true := by simp; omega
    rw [this]; rfl
  have e6 : plainT r = { kind := 0, int := intV (nums (runesBytes (r.take (r.length - (cnt r).length)))), whole := true, sign := false } := by unfold plainT; rw [e5, hs, e2]; rfl
  rw [e6, e4]
  exact plain_000 h hl hs hf hx
theorem tkplain_any (h : Now 80 g v xs r w0 w) (hl : 1 ≤ r.length) :
    Calls Tryz.prog 110 #[.pointer (some ⟨g, 0, none⟩)] w fun e w' => e = .returned (plainT r).val ∧ Now 80 g v xs (num4 r) w0 w' := by
  cases hs : sgn r 0 <;> cases hf : frac (num2 r) 0 <;> cases hx : decide (0 < expo (num3 r))
  · exact plainAny_000 h hl hs hf hx
  · exact plainAny_001 h hl hs hf hx
  · exact plainAny_010 h hl hs hf hx
  · exact plainAny_011 h hl hs hf hx
  · exact plainAny_100 h hl hs hf hx
  · exact plainAny_101 h hl hs hf hx
  · exact plainAny_110 h hl hs hf hx
  · exact plainAny_111 h hl hs hf hx
end
end Go.Proofs.YtfggpenfdfklkaaGreat
namespace Go.Proofs.YtfggpenfdfklkaaGreat
open Go.RowKit
section
variable {g b : Nat} {v : Value} {xs r : List Int} {w0 w : World} {t : Tok}
theorem TokB.kind (h : TokB b t w) (x : Int) : TokB b { t with kind := x } (w.setCell ⟨b, 0, none⟩ (.int .i64 x)) := by
  unfold TokB at h ⊢
  simp [World.setCell, Array.getElem?_modify, h]

theorem took_yes (h : Now 80 g v xs r w0 w) (s : ByteArray) (l : List Int) (hl : nums s = l) (hs : s.size ≤ 16) (ha : ∀ x ∈ l, 0 ≤ x ∧ x < 128) (hp : pre l r = true) :
    Calls Tryz.prog 71 #[.pointer (some ⟨g, 0, none⟩), .string s] w fun e w' => e = .returned (.bool true) ∧ Now 80 g v xs (dp l.length r) w0 w' :=
  (took_any h s l hl hs ha).mono fun _ _ hh => by
    rcases hh with ⟨he, _, hn⟩ | ⟨_, hf, _⟩
    · exact ⟨he, hn⟩
    · rw [hp] at hf; cases hf
theorem took_no (h : Now 80 g v xs r w0 w) (s : ByteArray) (l : List Int) (hl : nums s = l) (hs : s.size ≤ 16) (ha : ∀ x ∈ l, 0 ≤ x ∧ x < 128) (hp : pre l r = false) :
    Calls Tryz.prog 71 #[.pointer (some ⟨g, 0, none⟩), .string s] w fun e w' => e = .returned (.bool false) ∧ Now 80 g v xs r w0 w' :=
  (took_any h s l hl hs ha).mono fun _ _ hh => by
    rcases hh with ⟨_, hf, _⟩ | ⟨he, _, hn⟩
    · rw [hp] at hf; cases hf
    · exact ⟨he, hn⟩

set_option maxRecDepth 100000 in
set_option maxHeartbeats 1600000 in
theorem number_any (h : Now 80 g v xs r w0 w) (hl : 1 ≤ r.length) :
    Calls Tryz.prog 81 #[.pointer (some ⟨g, 0, none⟩)] w fun e w' => e = .returned (numberT r).1.val ∧ Now 80 g v xs (numberT r).2 w0 w' := by
  have hgo := h.st.lt
  have hws := h.gw.size
  have hA := (h.alloc zeroT).st.now
  have hZ := TokB.zero w
  by_cases hn : nbg (num4 r) 0 = true
  · have e : numberT r = ({ plainT r with kind := 12, text := runesBytes (nm (num4 r)).1 }, (nm (num4 r)).2) := by unfold numberT; rw [if_pos hn]
    rw [e]
    clear e
    go_enter Tryz.func81, Tryz.ntmps81
    go_wp2_with (go_at_call 110; (with_reducible refine (tkplain_any hA hl).mono ?_); rintro e w1 ⟨rfl, h1⟩; simp only [Tok.val])
    have hB0 : Now 80 g v xs (num4 r) w0 (w1.alloc (.cells #[.int .i64 (plainT r).kind, .string (plainT r).text, .int .i64 (plainT r).int, .bool (plainT r).whole, .bool (plainT r).sign, .bool (plainT r).id] 47)) := (h1.since (h.alloc zeroT)).alloc _
    have hZ1 := (hZ.keep h1 hgo).alloc (.cells #[.int .i64 (plainT r).kind, .string (plainT r).text, .int .i64 (plainT r).int, .bool (plainT r).whole, .bool (plainT r).sign, .bool (plainT r).id] 47)
    have hT : TokB w1.heap.size (plainT r) (w1.alloc (.cells #[.int .i64 (plainT r).kind, .string (plainT r).text, .int .i64 (plainT r).int, .bool (plainT r).whole, .bool (plainT r).sign, .bool (plainT r).id] 47)) := heap_alloc_self _ _
    have hg4 : w.heap.size < w1.heap.size := by have := h1.gw.size; simp at this; omega
    have hg5 : g < w1.heap.size := by omega
    clear h1 hA hZ
    generalize w1.alloc (.cells #[.int .i64 (plainT r).kind, .string (plainT r).text, .int .i64 (plainT r).int, .bool (plainT r).whole, .bool (plainT r).sign, .bool (plainT r).id] 47) = wB at *
    generalize w1.heap.size = b4 at *
    have h1 := hB0.st.now
    go_wp2_with (go_at_call 82; (with_reducible refine (nbg_0 h1).mono ?_); rintro e w1 ⟨rfl, h1⟩; have hc4 := (hT.keep h1 hg5).cells)
    have hS := (h1.since hB0).set (p := ⟨b4, 0, none⟩) (by show w0.heap.size ≤ b4; omega) (.int .i64 12)
    have hT2 := (hT.keep h1 hg5).kind 12
    have hZ2 := (hZ1.keep h1 hgo).other (p := ⟨b4, 0, none⟩) (by show w.heap.size ≠ b4; omega) (.int .i64 12)
    clear hc4 h1
    generalize w1.setCell ⟨b4, 0, none⟩ (.int .i64 12) = wC at *
    have h1 := hS.st.now
    go_wp2_with (go_at_call 106; (with_reducible refine (nameW_any h1).mono ?_); rintro e w1 ⟨rfl, h1⟩; have hc4 := (hT2.keep h1 hg5).cells; have hcz := (hZ2.keep h1 hgo).cells)
    refine bodyPost_ret (v := Tok.val { plainT r with kind := 12, text := runesBytes (nm (num4 r)).1 }) ?_ rfl ⟨rfl, ?_⟩
    · simp [results, Tryz.results81, go_sem, hcz, Tok.val]
    · exact ((h1.since hS).set (p := ⟨b4, 1, none⟩) (by show w0.heap.size ≤ b4; omega) _).put6 hws _ _ _ _ _ _
  · have hn2 : nbg (num4 r) 0 = false := by simpa using hn
    by_cases hp : pre [37] (num4 r) = true
    · have e : numberT r = ({ plainT r with kind := 11 }, dp 1 (num4 r)) := by unfold numberT; rw [if_neg hn, if_pos hp]
      rw [e]
      clear e hn
      have HP := Lib.hid hp
      clear hp
      go_enter Tryz.func81, Tryz.ntmps81
      go_wp2_with (go_at_call 110; (with_reducible refine (tkplain_any hA hl).mono ?_); rintro e w1 ⟨rfl, h1⟩; simp only [Tok.val])
      have hB0 : Now 80 g v xs (num4 r) w0 (w1.alloc (.cells #[.int .i64 (plainT r).kind, .string (plainT r).text, .int .i64 (plainT r).int, .bool (plainT r).whole, .bool (plainT r).sign, .bool (plainT r).id] 47)) := (h1.since (h.alloc zeroT)).alloc _
      have hZ1 := (hZ.keep h1 hgo).alloc (.cells #[.int .i64 (plainT r).kind, .string (plainT r).text, .int .i64 (plainT r).int, .bool (plainT r).whole, .bool (plainT r).sign, .bool (plainT r).id] 47)
      have hT : TokB w1.heap.size (plainT r) (w1.alloc (.cells #[.int .i64 (plainT r).kind, .string (plainT r).text, .int .i64 (plainT r).int, .bool (plainT r).whole, .bool (plainT r).sign, .bool (plainT r).id] 47)) := heap_alloc_self _ _
      have hg4 : w.heap.size < w1.heap.size := by have := h1.gw.size; simp at this; omega
      have hg5 : g < w1.heap.size := by omega
      clear h1 hA hZ
      generalize w1.alloc (.cells #[.int .i64 (plainT r).kind, .string (plainT r).text, .int .i64 (plainT r).int, .bool (plainT r).whole, .bool (plainT r).sign, .bool (plainT r).id] 47) = wB at *
      generalize w1.heap.size = b4 at *
      have h1 := hB0.st.now
      go_wp2_with (first | (go_at_call 82; (with_reducible refine (nbg_0 h1).mono ?_); rintro e w1 ⟨rfl, h1⟩) | (go_at_call 71; (with_reducible refine (took_yes h1 ⟨#[37]⟩ [37] (by decide) (by decide) (by decide) HP.out).mono ?_); rintro e w1 ⟨rfl, h1⟩; have hc4 := (hT.keep h1 hg5).cells; have hcz := (hZ1.keep h1 hgo).cells))
      refine bodyPost_ret (v := Tok.val { plainT r with kind := 11 }) ?_ rfl ⟨rfl, ?_⟩
      · simp [results, Tryz.results81, go_sem, hcz, Tok.val]
      · exact ((h1.since hB0).set (p := ⟨b4, 0, none⟩) (by show w0.heap.size ≤ b4; omega) _).put6 hws _ _ _ _ _ _
    · have hp2 : pre [37] (num4 r) = false := by simpa using hp
      have e : numberT r = ({ plainT r with kind := 10 }, num4 r) := by unfold numberT; rw [if_neg hn, if_neg hp]
      rw [e]
      clear e hn hp
      have HP := Lib.hid hp2
      clear hp2
      go_enter Tryz.func81, Tryz.ntmps81
      go_wp2_with (go_at_call 110; (with_reducible refine (tkplain_any hA hl).mono ?_); rintro e w1 ⟨rfl, h1⟩; simp only [Tok.val])
      have hB0 : Now 80 g v xs (num4 r) w0 (w1.alloc (.cells #[.int .i64 (plainT r).kind, .string (plainT r).text, .int .i64 (plainT r).int, .bool (plainT r).whole, .bool (plainT r).sign, .bool (plainT r).id] 47)) := (h1.since (h.alloc zeroT)).alloc _
      have hZ1 := (hZ.keep h1 hgo).alloc (.cells #[.int .i64 (plainT r).kind, .string (plainT r).text, .int .i64 (plainT r).int, .bool (plainT r).whole, .bool (plainT r).sign, .bool (plainT r).id] 47)
      have hT : TokB w1.heap.size (plainT r) (w1.alloc (.cells #[.int .i64 (plainT r).kind, .string (plainT r).text, .int .i64 (plainT r).int, .bool (plainT r).whole, .bool (plainT r).sign, .bool (plainT r).id] 47)) := heap_alloc_self _ _
      have hg4 : w.heap.size < w1.heap.size := by have := h1.gw.size; simp at this; omega
      have hg5 : g < w1.heap.size := by omega
      clear h1 hA hZ
      generalize w1.alloc (.cells #[.int .i64 (plainT r).kind, .string (plainT r).text, .int .i64 (plainT r).int, .bool (plainT r).whole, .bool (plainT r).sign, .bool (plainT r).id] 47) = wB at *
      generalize w1.heap.size = b4 at *
      have h1 := hB0.st.now
      go_wp2_with (first | (go_at_call 82; (with_reducible refine (nbg_0 h1).mono ?_); rintro e w1 ⟨rfl, h1⟩) | (go_at_call 71; (with_reducible refine (took_no h1 ⟨#[37]⟩ [37] (by decide) (by decide) (by decide) HP.out).mono ?_); rintro e w1 ⟨rfl, h1⟩; have hc4 := (hT.keep h1 hg5).cells; have hcz := (hZ1.keep h1 hgo).cells))
      refine bodyPost_ret (v := Tok.val { plainT r with kind := 10 }) ?_ rfl ⟨rfl, ?_⟩
      · simp [results, Tryz.results81, go_sem, hcz, Tok.val]
      · exact ((h1.since hB0).set (p := ⟨b4, 0, none⟩) (by show w0.heap.size ≤ b4; omega) _).put6 hws _ _ _ _ _ _
end
end Go.Proofs.YtfggpenfdfklkaaGreat
