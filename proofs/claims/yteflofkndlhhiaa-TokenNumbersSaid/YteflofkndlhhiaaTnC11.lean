
import Derived.Test.YteflofkndlhhiaaTnB
import Derived.Test.YteflofkndlhhiaaRnd
import Derived.StillTailTactics
import Derived.Deep.DeepCutAuto
namespace Go.Proofs.Yteflofkndlhhiaa
open Go.RowKit
set_option maxRecDepth 100000 in
set_option maxHeartbeats 3200000 in
theorem num_10nl (w : World) (u : Nat) (n sign more : Int) (hn1 : -9223372036854775808 ≤ n) (hn2 : n ≤ 9223372036854775807) (hneg : n < 0) (hu : n.natAbs = u) (hk : sign % 3 = 1) (hj : more % 5 = 0) (hlt : (u : Int) ≤ 2147483646) :
    Calls Try.prog 6 #[.int .i64 n, .int .i64 sign, .int .i64 more] w (LawPost w) := by
  have hd : nums ((strOfNums (decT n)).extract 1 (strOfNums (decT n)).size) = decD u := by
    have h0 : nums (strOfNums (decT n)) = decT n := nums_str fun x hx => by have := decT_ok _ x hx; omega
    rw [nums_from, h0]; unfold decT; rw [if_pos hneg, hu]; rfl
  have hT := num_read 1 (by decide) 0 (by decide) u ⟨#[43]⟩ ((strOfNums (decT n)).extract 1 (strOfNums (decT n)).size) ⟨#[]⟩ rfl hd rfl
  have hI := num_int 1 (by decide) u ⟨#[43]⟩ ((strOfNums (decT n)).extract 1 (strOfNums (decT n)).size) rfl hd
  have hV : heldV 1 u = (u : Int) := by unfold heldV; simp; omega
  rw [hV] at hT hI
  have hW : wantT 1 0 ((u : Int)) = { kind := 10, text := ⟨#[]⟩, int := (u : Int), whole := true, sign := true } := by unfold wantT; simp
  rw [hW] at hT
  have hsz : (((strOfNums (decT n)).extract 1 (strOfNums (decT n)).size)).size ≤ 21 := by
    have h1 := congrArg List.length hd
    rw [nums_length] at h1
    have h2 := decD_len 19 u (by omega)
    omega
  obtain ⟨hsz2, hsz3⟩ := decT_size n (by omega)
  have hw1 : IntKind.u64.wrap (-IntKind.u64.wrap n) = (u : Int) := by rw [IntKind.wrap_u64, IntKind.wrap_u64]; omega
  have hw3 : IntKind.i64.wrap (u : Int) = (u : Int) := by exact IntWalk.i64_in _ (by omega)
  have hw4 : IntKind.i64.wrap (-(u : Int)) = -(u : Int) := by exact IntWalk.i64_in _ (by omega)
  have q0 : ∀ w : World, (binOp .eql 33 (.agg #[.int .i64 10, .string ⟨#[]⟩, .int .i64 ((u : Int)), .bool true, .bool true, .bool false]) (.agg #[.int .i64 10, .string ⟨#[]⟩, .int .i64 ((u : Int)), .bool true, .bool true, .bool false])).run Try.prog w = .ok (.bool true) w := fun w => tokRefl_run { kind := 10, text := ⟨#[]⟩, int := (u : Int), whole := true, sign := true } w
  have hsz4 : (1 : Int) ≤ ((strOfNums (decT n)).size : Int) := by omega
  have hdb : -9223372036854775808 ≤ n ∧ n ≤ 9223372036854775807 := by omega
  have hbig : ¬ 9223372036854775807 < (strOfNums (decT n)).size := by omega
  have hisz : (⟨#[43]⟩ ++ ((strOfNums (decT n)).extract 1 (strOfNums (decT n)).size)).size ≤ 1000000000 := by simp only [ByteArray.size_append]; first | omega | (show 1 + _ ≤ _; omega)
  have HT := Lib.hid hT
  have HD := Lib.hid hd
  clear hT hV hW hd HD hu
  go_enter Try.func6, Try.ntmps6
  go_wp2_with (first | (go_at_call 23; (with_reducible refine (round_any _ 3 1 _ (by decide) (by decide) hk).mono ?_); rintro e w1 ⟨rfl, rfl⟩) | (go_at_call 23; (with_reducible refine (round_any _ 5 0 _ (by decide) (by decide) hj).mono ?_); rintro e w1 ⟨rfl, rfl⟩) | (go_at_call 25; (with_reducible refine (decimal_any _ _ hdb).mono ?_); rintro e w1 ⟨rfl, hb1⟩) | (go_at_call 19; (with_reducible refine (int_any _ _ ?_).mono ?_); exact hisz; rintro e w2 ⟨rfl, hb2⟩))
  refine (allT_any _ _ ?_).mono ?_
  · simp only [ByteArray.size_append]; first | omega | (show 1 + _ ≤ _; omega) | (show _ + 2 ≤ _; omega) | (show _ + 1 ≤ _; omega) | (show 1 + _ + 2 ≤ _; omega) | (show 1 + _ + 1 ≤ _; omega)
  rintro e w3 ⟨v3, rfl, hr3, hb3⟩
  rw [HT.out] at hr3
  obtain ⟨a, c, rfl, hle, hcell⟩ := hr3
  obtain ⟨b, rfl, hlt2, hc⟩ := hcell (by simp)
  have f0 := hc 0 _ rfl
  have f1 := hc 1 _ rfl
  have f2 := hc 2 _ rfl
  have f3 := hc 3 _ rfl
  have f4 := hc 4 _ rfl
  have f5 := hc 5 _ rfl
  simp only [List.length_cons, List.length_nil] at hle ⊢
  clear hc hcell
  go_upto_region 23 with fail
  have SH : Shut ((u : Int) ≤ 2147483646) := ⟨hlt⟩
  have HB := Shut.mk (below_seq (below_seq (below_seq (below_seq (below_seq hb1 (below_al _ _)) hb2) (below_al _ _)) hb3) (below_seq (below_al w3 (.cells #[.int .i64 10, .int .i64 10, .int .i64 10, .int .i64 12, .int .i64 11] 3)) (below_al _ (.cells #[.int .i64 10, .string ⟨#[]⟩, .int .i64 ((u : Int)), .bool true, .bool true, .bool false] 33))))
  have hBW := below_seq (below_al w3 (.cells #[.int .i64 10, .int .i64 10, .int .i64 10, .int .i64 12, .int .i64 11] 3)) (below_al _ (.cells #[.int .i64 10, .string ⟨#[]⟩, .int .i64 ((u : Int)), .bool true, .bool true, .bool false] 33))
  have hTB := heap_alloc_self (w3.alloc (.cells #[.int .i64 10, .int .i64 10, .int .i64 10, .int .i64 12, .int .i64 11] 3)) (.cells #[.int .i64 10, .string ⟨#[]⟩, .int .i64 ((u : Int)), .bool true, .bool true, .bool false] 33)
  have hs3 : (w3.alloc (.cells #[.int .i64 10, .int .i64 10, .int .i64 10, .int .i64 12, .int .i64 11] 3)).heap.size = w3.heap.size + 1 := by simp
  rw [hs3] at hTB
  replace f0 := (hBW.cell (p := ⟨b, 0, none⟩) hlt2).trans f0
  replace f1 := (hBW.cell (p := ⟨b, 1, none⟩) hlt2).trans f1
  replace f2 := (hBW.cell (p := ⟨b, 2, none⟩) hlt2).trans f2
  replace f3 := (hBW.cell (p := ⟨b, 3, none⟩) hlt2).trans f3
  replace f4 := (hBW.cell (p := ⟨b, 4, none⟩) hlt2).trans f4
  replace f5 := (hBW.cell (p := ⟨b, 5, none⟩) hlt2).trans f5
  clear hlt hs3 hBW hb1 hb2 hb3 hlt2 HT
  generalize (w3.alloc (.cells #[.int .i64 10, .int .i64 10, .int .i64 10, .int .i64 12, .int .i64 11] 3)).alloc (.cells #[.int .i64 10, .string ⟨#[]⟩, .int .i64 ((u : Int)), .bool true, .bool true, .bool false] 33) = W at *
  generalize w3.heap.size + 1 = bT at *
  have t0 : W.cell? ⟨bT, 0, none⟩ = some (.int .i64 10) := by simp [World.cell?, hTB]
  have t1 : W.cell? ⟨bT, 1, none⟩ = some (.string ⟨#[]⟩) := by simp [World.cell?, hTB]
  have t2 : W.cell? ⟨bT, 2, none⟩ = some (.int .i64 ((u : Int))) := by simp [World.cell?, hTB]
  have t3 : W.cell? ⟨bT, 3, none⟩ = some (.bool true) := by simp [World.cell?, hTB]
  have t4 : W.cell? ⟨bT, 4, none⟩ = some (.bool true) := by simp [World.cell?, hTB]
  have t5 : W.cell? ⟨bT, 5, none⟩ = some (.bool false) := by simp [World.cell?, hTB]
  clear hTB
  go_cut [76] (fun s wx => s = .bool true ∧ W = wx)
  case first =>
    clear f0 f1 f2 f3 f4 f5 t0 t1 t2 t3 t4 t5
    go_wp2
    go_meet
    case rel => exact ⟨ret_b (by have := SH.out; simp; omega), rfl⟩
  case rest =>
    obtain ⟨rfl, rfl⟩ := hcut
    clear SH
    go_wp2
    have d0 : ({ heap := W.heap, tape := W.tape, drawn := W.drawn + 1, os := W.os, output := W.output } : World).cell? ⟨b, 0, none⟩ = some (.int .i64 10) := f0
    have d1 : ({ heap := W.heap, tape := W.tape, drawn := W.drawn + 1, os := W.os, output := W.output } : World).cell? ⟨b, 1, none⟩ = some (.string ⟨#[]⟩) := f1
    have d2 : ({ heap := W.heap, tape := W.tape, drawn := W.drawn + 1, os := W.os, output := W.output } : World).cell? ⟨b, 2, none⟩ = some (.int .i64 ((u : Int))) := f2
    have d3 : ({ heap := W.heap, tape := W.tape, drawn := W.drawn + 1, os := W.os, output := W.output } : World).cell? ⟨b, 3, none⟩ = some (.bool true) := f3
    have d4 : ({ heap := W.heap, tape := W.tape, drawn := W.drawn + 1, os := W.os, output := W.output } : World).cell? ⟨b, 4, none⟩ = some (.bool true) := f4
    have d5 : ({ heap := W.heap, tape := W.tape, drawn := W.drawn + 1, os := W.os, output := W.output } : World).cell? ⟨b, 5, none⟩ = some (.bool false) := f5
    have e0 : ({ heap := W.heap, tape := W.tape, drawn := W.drawn + 1, os := W.os, output := W.output } : World).cell? ⟨bT, 0, none⟩ = some (.int .i64 10) := t0
    have e1 : ({ heap := W.heap, tape := W.tape, drawn := W.drawn + 1, os := W.os, output := W.output } : World).cell? ⟨bT, 1, none⟩ = some (.string ⟨#[]⟩) := t1
    have e2 : ({ heap := W.heap, tape := W.tape, drawn := W.drawn + 1, os := W.os, output := W.output } : World).cell? ⟨bT, 2, none⟩ = some (.int .i64 ((u : Int))) := t2
    have e3 : ({ heap := W.heap, tape := W.tape, drawn := W.drawn + 1, os := W.os, output := W.output } : World).cell? ⟨bT, 3, none⟩ = some (.bool true) := t3
    have e4 : ({ heap := W.heap, tape := W.tape, drawn := W.drawn + 1, os := W.os, output := W.output } : World).cell? ⟨bT, 4, none⟩ = some (.bool true) := t4
    have e5 : ({ heap := W.heap, tape := W.tape, drawn := W.drawn + 1, os := W.os, output := W.output } : World).cell? ⟨bT, 5, none⟩ = some (.bool false) := t5
    go_still_tail 11, (by kernel_rfl)
    change wpList _ _ _ _ _ W.drew
    clear d0 d1 d2 d3 d4 d5 e0 e1 e2 e3 e4 e5 f0 f1 f2 f3 f4 f5 t0 t1 t2 t3 t4 t5
    have HB2 := Shut.mk (below_seq HB.out (below_dr W))
    generalize W.drew = w5 at *
    go_wp2_with (go_at_call 14; (with_reducible refine (awake_any _).mono ?_); rintro e w8 ⟨rfl, hb8⟩)
    go_ret
    exact ⟨rfl, below_seq HB2.out hb8⟩
set_option maxRecDepth 100000 in
set_option maxHeartbeats 3200000 in
theorem num_10nh (w : World) (u : Nat) (n sign more : Int) (hn1 : -9223372036854775808 ≤ n) (hn2 : n ≤ 9223372036854775807) (hneg : n < 0) (hu : n.natAbs = u) (hk : sign % 3 = 1) (hj : more % 5 = 0) (hlt : 2147483647 ≤ (u : Int)) :
    Calls Try.prog 6 #[.int .i64 n, .int .i64 sign, .int .i64 more] w (LawPost w) := by
  have hd : nums ((strOfNums (decT n)).extract 1 (strOfNums (decT n)).size) = decD u := by
    have h0 : nums (strOfNums (decT n)) = decT n := nums_str fun x hx => by have := decT_ok _ x hx; omega
    rw [nums_from, h0]; unfold decT; rw [if_pos hneg, hu]; rfl
  have hT := num_read 1 (by decide) 0 (by decide) u ⟨#[43]⟩ ((strOfNums (decT n)).extract 1 (strOfNums (decT n)).size) ⟨#[]⟩ rfl hd rfl
  have hI := num_int 1 (by decide) u ⟨#[43]⟩ ((strOfNums (decT n)).extract 1 (strOfNums (decT n)).size) rfl hd
  have hV : heldV 1 u = 2147483647 := by unfold heldV; simp; omega
  rw [hV] at hT hI
  have hW : wantT 1 0 (2147483647) = { kind := 10, text := ⟨#[]⟩, int := 2147483647, whole := true, sign := true } := by unfold wantT; simp
  rw [hW] at hT
  have hsz : (((strOfNums (decT n)).extract 1 (strOfNums (decT n)).size)).size ≤ 21 := by
    have h1 := congrArg List.length hd
    rw [nums_length] at h1
    have h2 := decD_len 19 u (by omega)
    omega
  obtain ⟨hsz2, hsz3⟩ := decT_size n (by omega)
  have hw1 : IntKind.u64.wrap (-IntKind.u64.wrap n) = (u : Int) := by rw [IntKind.wrap_u64, IntKind.wrap_u64]; omega
  have q0 : ∀ w : World, (binOp .eql 33 (.agg #[.int .i64 10, .string ⟨#[]⟩, .int .i64 (2147483647), .bool true, .bool true, .bool false]) (.agg #[.int .i64 10, .string ⟨#[]⟩, .int .i64 (2147483647), .bool true, .bool true, .bool false])).run Try.prog w = .ok (.bool true) w := fun w => tokRefl_run { kind := 10, text := ⟨#[]⟩, int := 2147483647, whole := true, sign := true } w
  have hsz4 : (1 : Int) ≤ ((strOfNums (decT n)).size : Int) := by omega
  have hdb : -9223372036854775808 ≤ n ∧ n ≤ 9223372036854775807 := by omega
  have hbig : ¬ 9223372036854775807 < (strOfNums (decT n)).size := by omega
  have hisz : (⟨#[43]⟩ ++ ((strOfNums (decT n)).extract 1 (strOfNums (decT n)).size)).size ≤ 1000000000 := by simp only [ByteArray.size_append]; first | omega | (show 1 + _ ≤ _; omega)
  have HT := Lib.hid hT
  have HD := Lib.hid hd
  clear hT hV hW hd HD hu
  go_enter Try.func6, Try.ntmps6
  go_wp2_with (first | (go_at_call 23; (with_reducible refine (round_any _ 3 1 _ (by decide) (by decide) hk).mono ?_); rintro e w1 ⟨rfl, rfl⟩) | (go_at_call 23; (with_reducible refine (round_any _ 5 0 _ (by decide) (by decide) hj).mono ?_); rintro e w1 ⟨rfl, rfl⟩) | (go_at_call 25; (with_reducible refine (decimal_any _ _ hdb).mono ?_); rintro e w1 ⟨rfl, hb1⟩) | (go_at_call 19; (with_reducible refine (int_any _ _ ?_).mono ?_); exact hisz; rintro e w2 ⟨rfl, hb2⟩))
  refine (allT_any _ _ ?_).mono ?_
  · simp only [ByteArray.size_append]; first | omega | (show 1 + _ ≤ _; omega) | (show _ + 2 ≤ _; omega) | (show _ + 1 ≤ _; omega) | (show 1 + _ + 2 ≤ _; omega) | (show 1 + _ + 1 ≤ _; omega)
  rintro e w3 ⟨v3, rfl, hr3, hb3⟩
  rw [HT.out] at hr3
  obtain ⟨a, c, rfl, hle, hcell⟩ := hr3
  obtain ⟨b, rfl, hlt2, hc⟩ := hcell (by simp)
  have f0 := hc 0 _ rfl
  have f1 := hc 1 _ rfl
  have f2 := hc 2 _ rfl
  have f3 := hc 3 _ rfl
  have f4 := hc 4 _ rfl
  have f5 := hc 5 _ rfl
  simp only [List.length_cons, List.length_nil] at hle ⊢
  clear hc hcell
  go_upto_region 23 with fail
  have SH : Shut (2147483647 ≤ (u : Int)) := ⟨hlt⟩
  have HB := Shut.mk (below_seq (below_seq (below_seq (below_seq (below_seq hb1 (below_al _ _)) hb2) (below_al _ _)) hb3) (below_seq (below_al w3 (.cells #[.int .i64 10, .int .i64 10, .int .i64 10, .int .i64 12, .int .i64 11] 3)) (below_al _ (.cells #[.int .i64 10, .string ⟨#[]⟩, .int .i64 (2147483647), .bool true, .bool true, .bool false] 33))))
  have hBW := below_seq (below_al w3 (.cells #[.int .i64 10, .int .i64 10, .int .i64 10, .int .i64 12, .int .i64 11] 3)) (below_al _ (.cells #[.int .i64 10, .string ⟨#[]⟩, .int .i64 (2147483647), .bool true, .bool true, .bool false] 33))
  have hTB := heap_alloc_self (w3.alloc (.cells #[.int .i64 10, .int .i64 10, .int .i64 10, .int .i64 12, .int .i64 11] 3)) (.cells #[.int .i64 10, .string ⟨#[]⟩, .int .i64 (2147483647), .bool true, .bool true, .bool false] 33)
  have hs3 : (w3.alloc (.cells #[.int .i64 10, .int .i64 10, .int .i64 10, .int .i64 12, .int .i64 11] 3)).heap.size = w3.heap.size + 1 := by simp
  rw [hs3] at hTB
  replace f0 := (hBW.cell (p := ⟨b, 0, none⟩) hlt2).trans f0
  replace f1 := (hBW.cell (p := ⟨b, 1, none⟩) hlt2).trans f1
  replace f2 := (hBW.cell (p := ⟨b, 2, none⟩) hlt2).trans f2
  replace f3 := (hBW.cell (p := ⟨b, 3, none⟩) hlt2).trans f3
  replace f4 := (hBW.cell (p := ⟨b, 4, none⟩) hlt2).trans f4
  replace f5 := (hBW.cell (p := ⟨b, 5, none⟩) hlt2).trans f5
  clear hlt hs3 hBW hb1 hb2 hb3 hlt2 HT
  generalize (w3.alloc (.cells #[.int .i64 10, .int .i64 10, .int .i64 10, .int .i64 12, .int .i64 11] 3)).alloc (.cells #[.int .i64 10, .string ⟨#[]⟩, .int .i64 (2147483647), .bool true, .bool true, .bool false] 33) = W at *
  generalize w3.heap.size + 1 = bT at *
  have t0 : W.cell? ⟨bT, 0, none⟩ = some (.int .i64 10) := by simp [World.cell?, hTB]
  have t1 : W.cell? ⟨bT, 1, none⟩ = some (.string ⟨#[]⟩) := by simp [World.cell?, hTB]
  have t2 : W.cell? ⟨bT, 2, none⟩ = some (.int .i64 (2147483647)) := by simp [World.cell?, hTB]
  have t3 : W.cell? ⟨bT, 3, none⟩ = some (.bool true) := by simp [World.cell?, hTB]
  have t4 : W.cell? ⟨bT, 4, none⟩ = some (.bool true) := by simp [World.cell?, hTB]
  have t5 : W.cell? ⟨bT, 5, none⟩ = some (.bool false) := by simp [World.cell?, hTB]
  clear hTB
  go_cut [76] (fun s wx => s = .bool false ∧ W = wx)
  case first =>
    clear f0 f1 f2 f3 f4 f5 t0 t1 t2 t3 t4 t5
    go_wp2
    go_meet
    case rel => exact ⟨ret_b (by have := SH.out; simp; omega), rfl⟩
  case rest =>
    obtain ⟨rfl, rfl⟩ := hcut
    clear SH
    go_wp2
    have d0 : ({ heap := W.heap, tape := W.tape, drawn := W.drawn + 1, os := W.os, output := W.output } : World).cell? ⟨b, 0, none⟩ = some (.int .i64 10) := f0
    have d1 : ({ heap := W.heap, tape := W.tape, drawn := W.drawn + 1, os := W.os, output := W.output } : World).cell? ⟨b, 1, none⟩ = some (.string ⟨#[]⟩) := f1
    have d2 : ({ heap := W.heap, tape := W.tape, drawn := W.drawn + 1, os := W.os, output := W.output } : World).cell? ⟨b, 2, none⟩ = some (.int .i64 (2147483647)) := f2
    have d3 : ({ heap := W.heap, tape := W.tape, drawn := W.drawn + 1, os := W.os, output := W.output } : World).cell? ⟨b, 3, none⟩ = some (.bool true) := f3
    have d4 : ({ heap := W.heap, tape := W.tape, drawn := W.drawn + 1, os := W.os, output := W.output } : World).cell? ⟨b, 4, none⟩ = some (.bool true) := f4
    have d5 : ({ heap := W.heap, tape := W.tape, drawn := W.drawn + 1, os := W.os, output := W.output } : World).cell? ⟨b, 5, none⟩ = some (.bool false) := f5
    have e0 : ({ heap := W.heap, tape := W.tape, drawn := W.drawn + 1, os := W.os, output := W.output } : World).cell? ⟨bT, 0, none⟩ = some (.int .i64 10) := t0
    have e1 : ({ heap := W.heap, tape := W.tape, drawn := W.drawn + 1, os := W.os, output := W.output } : World).cell? ⟨bT, 1, none⟩ = some (.string ⟨#[]⟩) := t1
    have e2 : ({ heap := W.heap, tape := W.tape, drawn := W.drawn + 1, os := W.os, output := W.output } : World).cell? ⟨bT, 2, none⟩ = some (.int .i64 (2147483647)) := t2
    have e3 : ({ heap := W.heap, tape := W.tape, drawn := W.drawn + 1, os := W.os, output := W.output } : World).cell? ⟨bT, 3, none⟩ = some (.bool true) := t3
    have e4 : ({ heap := W.heap, tape := W.tape, drawn := W.drawn + 1, os := W.os, output := W.output } : World).cell? ⟨bT, 4, none⟩ = some (.bool true) := t4
    have e5 : ({ heap := W.heap, tape := W.tape, drawn := W.drawn + 1, os := W.os, output := W.output } : World).cell? ⟨bT, 5, none⟩ = some (.bool false) := t5
    go_still_tail 11, (by kernel_rfl)
    change wpList _ _ _ _ _ W.drew
    clear d0 d1 d2 d3 d4 d5 e0 e1 e2 e3 e4 e5 f0 f1 f2 f3 f4 f5 t0 t1 t2 t3 t4 t5
    have HB2 := Shut.mk (below_seq HB.out (below_dr W))
    generalize W.drew = w5 at *
    go_wp2_with (go_at_call 14; (with_reducible refine (awake_any _).mono ?_); rintro e w8 ⟨rfl, hb8⟩)
    go_ret
    exact ⟨rfl, below_seq HB2.out hb8⟩
set_option maxRecDepth 100000 in
set_option maxHeartbeats 3200000 in
theorem num_11nl (w : World) (u : Nat) (n sign more : Int) (hn1 : -9223372036854775808 ≤ n) (hn2 : n ≤ 9223372036854775807) (hneg : n < 0) (hu : n.natAbs = u) (hk : sign % 3 = 1) (hj : more % 5 = 1) (hlt : (u : Int) ≤ 2147483646) :
    Calls Try.prog 6 #[.int .i64 n, .int .i64 sign, .int .i64 more] w (LawPost w) := by
  have hd : nums ((strOfNums (decT n)).extract 1 (strOfNums (decT n)).size) = decD u := by
    have h0 : nums (strOfNums (decT n)) = decT n := nums_str fun x hx => by have := decT_ok _ x hx; omega
    rw [nums_from, h0]; unfold decT; rw [if_pos hneg, hu]; rfl
  have hT := num_read 1 (by decide) 1 (by decide) u ⟨#[43]⟩ ((strOfNums (decT n)).extract 1 (strOfNums (decT n)).size) ⟨#[46, 53]⟩ rfl hd rfl
  have hI := num_int 1 (by decide) u ⟨#[43]⟩ ((strOfNums (decT n)).extract 1 (strOfNums (decT n)).size) rfl hd
  have hV : heldV 1 u = (u : Int) := by unfold heldV; simp; omega
  rw [hV] at hT hI
  have hW : wantT 1 1 ((u : Int)) = { kind := 10, text := ⟨#[]⟩, int := 0, whole := false, sign := true } := by unfold wantT; simp
  rw [hW] at hT
  have hsz : (((strOfNums (decT n)).extract 1 (strOfNums (decT n)).size)).size ≤ 21 := by
    have h1 := congrArg List.length hd
    rw [nums_length] at h1
    have h2 := decD_len 19 u (by omega)
    omega
  obtain ⟨hsz2, hsz3⟩ := decT_size n (by omega)
  have hw1 : IntKind.u64.wrap (-IntKind.u64.wrap n) = (u : Int) := by rw [IntKind.wrap_u64, IntKind.wrap_u64]; omega
  have hw3 : IntKind.i64.wrap (u : Int) = (u : Int) := by exact IntWalk.i64_in _ (by omega)
  have hw4 : IntKind.i64.wrap (-(u : Int)) = -(u : Int) := by exact IntWalk.i64_in _ (by omega)
  have q0 : ∀ w : World, (binOp .eql 33 (.agg #[.int .i64 10, .string ⟨#[]⟩, .int .i64 (0), .bool false, .bool true, .bool false]) (.agg #[.int .i64 10, .string ⟨#[]⟩, .int .i64 (0), .bool false, .bool true, .bool false])).run Try.prog w = .ok (.bool true) w := fun w => tokRefl_run { kind := 10, text := ⟨#[]⟩, int := 0, whole := false, sign := true } w
  have hsz4 : (1 : Int) ≤ ((strOfNums (decT n)).size : Int) := by omega
  have hdb : -9223372036854775808 ≤ n ∧ n ≤ 9223372036854775807 := by omega
  have hbig : ¬ 9223372036854775807 < (strOfNums (decT n)).size := by omega
  have hisz : (⟨#[43]⟩ ++ ((strOfNums (decT n)).extract 1 (strOfNums (decT n)).size)).size ≤ 1000000000 := by simp only [ByteArray.size_append]; first | omega | (show 1 + _ ≤ _; omega)
  have HT := Lib.hid hT
  have HD := Lib.hid hd
  clear hT hV hW hd HD hu
  go_enter Try.func6, Try.ntmps6
  go_wp2_with (first | (go_at_call 23; (with_reducible refine (round_any _ 3 1 _ (by decide) (by decide) hk).mono ?_); rintro e w1 ⟨rfl, rfl⟩) | (go_at_call 23; (with_reducible refine (round_any _ 5 1 _ (by decide) (by decide) hj).mono ?_); rintro e w1 ⟨rfl, rfl⟩) | (go_at_call 25; (with_reducible refine (decimal_any _ _ hdb).mono ?_); rintro e w1 ⟨rfl, hb1⟩) | (go_at_call 19; (with_reducible refine (int_any _ _ ?_).mono ?_); exact hisz; rintro e w2 ⟨rfl, hb2⟩))
  refine (allT_any _ _ ?_).mono ?_
  · simp only [ByteArray.size_append]; first | omega | (show 1 + _ ≤ _; omega) | (show _ + 2 ≤ _; omega) | (show _ + 1 ≤ _; omega) | (show 1 + _ + 2 ≤ _; omega) | (show 1 + _ + 1 ≤ _; omega)
  rintro e w3 ⟨v3, rfl, hr3, hb3⟩
  rw [HT.out] at hr3
  obtain ⟨a, c, rfl, hle, hcell⟩ := hr3
  obtain ⟨b, rfl, hlt2, hc⟩ := hcell (by simp)
  have f0 := hc 0 _ rfl
  have f1 := hc 1 _ rfl
  have f2 := hc 2 _ rfl
  have f3 := hc 3 _ rfl
  have f4 := hc 4 _ rfl
  have f5 := hc 5 _ rfl
  simp only [List.length_cons, List.length_nil] at hle ⊢
  clear hc hcell
  go_upto_region 23 with fail
  have SH : Shut ((u : Int) ≤ 2147483646) := ⟨hlt⟩
  have HB := Shut.mk (below_seq (below_seq (below_seq (below_seq (below_seq hb1 (below_al _ _)) hb2) (below_al _ _)) hb3) (below_seq (below_al w3 (.cells #[.int .i64 10, .int .i64 10, .int .i64 10, .int .i64 12, .int .i64 11] 3)) (below_al _ (.cells #[.int .i64 10, .string ⟨#[]⟩, .int .i64 (0), .bool false, .bool true, .bool false] 33))))
  have hBW := below_seq (below_al w3 (.cells #[.int .i64 10, .int .i64 10, .int .i64 10, .int .i64 12, .int .i64 11] 3)) (below_al _ (.cells #[.int .i64 10, .string ⟨#[]⟩, .int .i64 (0), .bool false, .bool true, .bool false] 33))
  have hTB := heap_alloc_self (w3.alloc (.cells #[.int .i64 10, .int .i64 10, .int .i64 10, .int .i64 12, .int .i64 11] 3)) (.cells #[.int .i64 10, .string ⟨#[]⟩, .int .i64 (0), .bool false, .bool true, .bool false] 33)
  have hs3 : (w3.alloc (.cells #[.int .i64 10, .int .i64 10, .int .i64 10, .int .i64 12, .int .i64 11] 3)).heap.size = w3.heap.size + 1 := by simp
  rw [hs3] at hTB
  replace f0 := (hBW.cell (p := ⟨b, 0, none⟩) hlt2).trans f0
  replace f1 := (hBW.cell (p := ⟨b, 1, none⟩) hlt2).trans f1
  replace f2 := (hBW.cell (p := ⟨b, 2, none⟩) hlt2).trans f2
  replace f3 := (hBW.cell (p := ⟨b, 3, none⟩) hlt2).trans f3
  replace f4 := (hBW.cell (p := ⟨b, 4, none⟩) hlt2).trans f4
  replace f5 := (hBW.cell (p := ⟨b, 5, none⟩) hlt2).trans f5
  clear hlt hs3 hBW hb1 hb2 hb3 hlt2 HT
  generalize (w3.alloc (.cells #[.int .i64 10, .int .i64 10, .int .i64 10, .int .i64 12, .int .i64 11] 3)).alloc (.cells #[.int .i64 10, .string ⟨#[]⟩, .int .i64 (0), .bool false, .bool true, .bool false] 33) = W at *
  generalize w3.heap.size + 1 = bT at *
  have t0 : W.cell? ⟨bT, 0, none⟩ = some (.int .i64 10) := by simp [World.cell?, hTB]
  have t1 : W.cell? ⟨bT, 1, none⟩ = some (.string ⟨#[]⟩) := by simp [World.cell?, hTB]
  have t2 : W.cell? ⟨bT, 2, none⟩ = some (.int .i64 (0)) := by simp [World.cell?, hTB]
  have t3 : W.cell? ⟨bT, 3, none⟩ = some (.bool false) := by simp [World.cell?, hTB]
  have t4 : W.cell? ⟨bT, 4, none⟩ = some (.bool true) := by simp [World.cell?, hTB]
  have t5 : W.cell? ⟨bT, 5, none⟩ = some (.bool false) := by simp [World.cell?, hTB]
  clear hTB
  go_cut [76] (fun s wx => s = .bool true ∧ W = wx)
  case first =>
    clear f0 f1 f2 f3 f4 f5 t0 t1 t2 t3 t4 t5
    go_wp2
    go_meet
    case rel => exact ⟨ret_b (by have := SH.out; simp; omega), rfl⟩
  case rest =>
    obtain ⟨rfl, rfl⟩ := hcut
    clear SH
    go_wp2
    have d0 : ({ heap := W.heap, tape := W.tape, drawn := W.drawn + 1, os := W.os, output := W.output } : World).cell? ⟨b, 0, none⟩ = some (.int .i64 10) := f0
    have d1 : ({ heap := W.heap, tape := W.tape, drawn := W.drawn + 1, os := W.os, output := W.output } : World).cell? ⟨b, 1, none⟩ = some (.string ⟨#[]⟩) := f1
    have d2 : ({ heap := W.heap, tape := W.tape, drawn := W.drawn + 1, os := W.os, output := W.output } : World).cell? ⟨b, 2, none⟩ = some (.int .i64 (0)) := f2
    have d3 : ({ heap := W.heap, tape := W.tape, drawn := W.drawn + 1, os := W.os, output := W.output } : World).cell? ⟨b, 3, none⟩ = some (.bool false) := f3
    have d4 : ({ heap := W.heap, tape := W.tape, drawn := W.drawn + 1, os := W.os, output := W.output } : World).cell? ⟨b, 4, none⟩ = some (.bool true) := f4
    have d5 : ({ heap := W.heap, tape := W.tape, drawn := W.drawn + 1, os := W.os, output := W.output } : World).cell? ⟨b, 5, none⟩ = some (.bool false) := f5
    have e0 : ({ heap := W.heap, tape := W.tape, drawn := W.drawn + 1, os := W.os, output := W.output } : World).cell? ⟨bT, 0, none⟩ = some (.int .i64 10) := t0
    have e1 : ({ heap := W.heap, tape := W.tape, drawn := W.drawn + 1, os := W.os, output := W.output } : World).cell? ⟨bT, 1, none⟩ = some (.string ⟨#[]⟩) := t1
    have e2 : ({ heap := W.heap, tape := W.tape, drawn := W.drawn + 1, os := W.os, output := W.output } : World).cell? ⟨bT, 2, none⟩ = some (.int .i64 (0)) := t2
    have e3 : ({ heap := W.heap, tape := W.tape, drawn := W.drawn + 1, os := W.os, output := W.output } : World).cell? ⟨bT, 3, none⟩ = some (.bool false) := t3
    have e4 : ({ heap := W.heap, tape := W.tape, drawn := W.drawn + 1, os := W.os, output := W.output } : World).cell? ⟨bT, 4, none⟩ = some (.bool true) := t4
    have e5 : ({ heap := W.heap, tape := W.tape, drawn := W.drawn + 1, os := W.os, output := W.output } : World).cell? ⟨bT, 5, none⟩ = some (.bool false) := t5
    go_still_tail 11, (by kernel_rfl)
    change wpList _ _ _ _ _ W.drew
    clear d0 d1 d2 d3 d4 d5 e0 e1 e2 e3 e4 e5 f0 f1 f2 f3 f4 f5 t0 t1 t2 t3 t4 t5
    have HB2 := Shut.mk (below_seq HB.out (below_dr W))
    generalize W.drew = w5 at *
    go_wp2_with (go_at_call 14; (with_reducible refine (awake_any _).mono ?_); rintro e w8 ⟨rfl, hb8⟩)
    go_ret
    exact ⟨rfl, below_seq HB2.out hb8⟩
set_option maxRecDepth 100000 in
set_option maxHeartbeats 3200000 in
theorem num_11nh (w : World) (u : Nat) (n sign more : Int) (hn1 : -9223372036854775808 ≤ n) (hn2 : n ≤ 9223372036854775807) (hneg : n < 0) (hu : n.natAbs = u) (hk : sign % 3 = 1) (hj : more % 5 = 1) (hlt : 2147483647 ≤ (u : Int)) :
    Calls Try.prog 6 #[.int .i64 n, .int .i64 sign, .int .i64 more] w (LawPost w) := by
  have hd : nums ((strOfNums (decT n)).extract 1 (strOfNums (decT n)).size) = decD u := by
    have h0 : nums (strOfNums (decT n)) = decT n := nums_str fun x hx => by have := decT_ok _ x hx; omega
    rw [nums_from, h0]; unfold decT; rw [if_pos hneg, hu]; rfl
  have hT := num_read 1 (by decide) 1 (by decide) u ⟨#[43]⟩ ((strOfNums (decT n)).extract 1 (strOfNums (decT n)).size) ⟨#[46, 53]⟩ rfl hd rfl
  have hI := num_int 1 (by decide) u ⟨#[43]⟩ ((strOfNums (decT n)).extract 1 (strOfNums (decT n)).size) rfl hd
  have hV : heldV 1 u = 2147483647 := by unfold heldV; simp; omega
  rw [hV] at hT hI
  have hW : wantT 1 1 (2147483647) = { kind := 10, text := ⟨#[]⟩, int := 0, whole := false, sign := true } := by unfold wantT; simp
  rw [hW] at hT
  have hsz : (((strOfNums (decT n)).extract 1 (strOfNums (decT n)).size)).size ≤ 21 := by
    have h1 := congrArg List.length hd
    rw [nums_length] at h1
    have h2 := decD_len 19 u (by omega)
    omega
  obtain ⟨hsz2, hsz3⟩ := decT_size n (by omega)
  have hw1 : IntKind.u64.wrap (-IntKind.u64.wrap n) = (u : Int) := by rw [IntKind.wrap_u64, IntKind.wrap_u64]; omega
  have q0 : ∀ w : World, (binOp .eql 33 (.agg #[.int .i64 10, .string ⟨#[]⟩, .int .i64 (0), .bool false, .bool true, .bool false]) (.agg #[.int .i64 10, .string ⟨#[]⟩, .int .i64 (0), .bool false, .bool true, .bool false])).run Try.prog w = .ok (.bool true) w := fun w => tokRefl_run { kind := 10, text := ⟨#[]⟩, int := 0, whole := false, sign := true } w
  have hsz4 : (1 : Int) ≤ ((strOfNums (decT n)).size : Int) := by omega
  have hdb : -9223372036854775808 ≤ n ∧ n ≤ 9223372036854775807 := by omega
  have hbig : ¬ 9223372036854775807 < (strOfNums (decT n)).size := by omega
  have hisz : (⟨#[43]⟩ ++ ((strOfNums (decT n)).extract 1 (strOfNums (decT n)).size)).size ≤ 1000000000 := by simp only [ByteArray.size_append]; first | omega | (show 1 + _ ≤ _; omega)
  have HT := Lib.hid hT
  have HD := Lib.hid hd
  clear hT hV hW hd HD hu
  go_enter Try.func6, Try.ntmps6
  go_wp2_with (first | (go_at_call 23; (with_reducible refine (round_any _ 3 1 _ (by decide) (by decide) hk).mono ?_); rintro e w1 ⟨rfl, rfl⟩) | (go_at_call 23; (with_reducible refine (round_any _ 5 1 _ (by decide) (by decide) hj).mono ?_); rintro e w1 ⟨rfl, rfl⟩) | (go_at_call 25; (with_reducible refine (decimal_any _ _ hdb).mono ?_); rintro e w1 ⟨rfl, hb1⟩) | (go_at_call 19; (with_reducible refine (int_any _ _ ?_).mono ?_); exact hisz; rintro e w2 ⟨rfl, hb2⟩))
  refine (allT_any _ _ ?_).mono ?_
  · simp only [ByteArray.size_append]; first | omega | (show 1 + _ ≤ _; omega) | (show _ + 2 ≤ _; omega) | (show _ + 1 ≤ _; omega) | (show 1 + _ + 2 ≤ _; omega) | (show 1 + _ + 1 ≤ _; omega)
  rintro e w3 ⟨v3, rfl, hr3, hb3⟩
  rw [HT.out] at hr3
  obtain ⟨a, c, rfl, hle, hcell⟩ := hr3
  obtain ⟨b, rfl, hlt2, hc⟩ := hcell (by simp)
  have f0 := hc 0 _ rfl
  have f1 := hc 1 _ rfl
  have f2 := hc 2 _ rfl
  have f3 := hc 3 _ rfl
  have f4 := hc 4 _ rfl
  have f5 := hc 5 _ rfl
  simp only [List.length_cons, List.length_nil] at hle ⊢
  clear hc hcell
  go_upto_region 23 with fail
  have SH : Shut (2147483647 ≤ (u : Int)) := ⟨hlt⟩
  have HB := Shut.mk (below_seq (below_seq (below_seq (below_seq (below_seq hb1 (below_al _ _)) hb2) (below_al _ _)) hb3) (below_seq (below_al w3 (.cells #[.int .i64 10, .int .i64 10, .int .i64 10, .int .i64 12, .int .i64 11] 3)) (below_al _ (.cells #[.int .i64 10, .string ⟨#[]⟩, .int .i64 (0), .bool false, .bool true, .bool false] 33))))
  have hBW := below_seq (below_al w3 (.cells #[.int .i64 10, .int .i64 10, .int .i64 10, .int .i64 12, .int .i64 11] 3)) (below_al _ (.cells #[.int .i64 10, .string ⟨#[]⟩, .int .i64 (0), .bool false, .bool true, .bool false] 33))
  have hTB := heap_alloc_self (w3.alloc (.cells #[.int .i64 10, .int .i64 10, .int .i64 10, .int .i64 12, .int .i64 11] 3)) (.cells #[.int .i64 10, .string ⟨#[]⟩, .int .i64 (0), .bool false, .bool true, .bool false] 33)
  have hs3 : (w3.alloc (.cells #[.int .i64 10, .int .i64 10, .int .i64 10, .int .i64 12, .int .i64 11] 3)).heap.size = w3.heap.size + 1 := by simp
  rw [hs3] at hTB
  replace f0 := (hBW.cell (p := ⟨b, 0, none⟩) hlt2).trans f0
  replace f1 := (hBW.cell (p := ⟨b, 1, none⟩) hlt2).trans f1
  replace f2 := (hBW.cell (p := ⟨b, 2, none⟩) hlt2).trans f2
  replace f3 := (hBW.cell (p := ⟨b, 3, none⟩) hlt2).trans f3
  replace f4 := (hBW.cell (p := ⟨b, 4, none⟩) hlt2).trans f4
  replace f5 := (hBW.cell (p := ⟨b, 5, none⟩) hlt2).trans f5
  clear hlt hs3 hBW hb1 hb2 hb3 hlt2 HT
  generalize (w3.alloc (.cells #[.int .i64 10, .int .i64 10, .int .i64 10, .int .i64 12, .int .i64 11] 3)).alloc (.cells #[.int .i64 10, .string ⟨#[]⟩, .int .i64 (0), .bool false, .bool true, .bool false] 33) = W at *
  generalize w3.heap.size + 1 = bT at *
  have t0 : W.cell? ⟨bT, 0, none⟩ = some (.int .i64 10) := by simp [World.cell?, hTB]
  have t1 : W.cell? ⟨bT, 1, none⟩ = some (.string ⟨#[]⟩) := by simp [World.cell?, hTB]
  have t2 : W.cell? ⟨bT, 2, none⟩ = some (.int .i64 (0)) := by simp [World.cell?, hTB]
  have t3 : W.cell? ⟨bT, 3, none⟩ = some (.bool false) := by simp [World.cell?, hTB]
  have t4 : W.cell? ⟨bT, 4, none⟩ = some (.bool true) := by simp [World.cell?, hTB]
  have t5 : W.cell? ⟨bT, 5, none⟩ = some (.bool false) := by simp [World.cell?, hTB]
  clear hTB
  go_cut [76] (fun s wx => s = .bool false ∧ W = wx)
  case first =>
    clear f0 f1 f2 f3 f4 f5 t0 t1 t2 t3 t4 t5
    go_wp2
    go_meet
    case rel => exact ⟨ret_b (by have := SH.out; simp; omega), rfl⟩
  case rest =>
    obtain ⟨rfl, rfl⟩ := hcut
    clear SH
    go_wp2
    have d0 : ({ heap := W.heap, tape := W.tape, drawn := W.drawn + 1, os := W.os, output := W.output } : World).cell? ⟨b, 0, none⟩ = some (.int .i64 10) := f0
    have d1 : ({ heap := W.heap, tape := W.tape, drawn := W.drawn + 1, os := W.os, output := W.output } : World).cell? ⟨b, 1, none⟩ = some (.string ⟨#[]⟩) := f1
    have d2 : ({ heap := W.heap, tape := W.tape, drawn := W.drawn + 1, os := W.os, output := W.output } : World).cell? ⟨b, 2, none⟩ = some (.int .i64 (0)) := f2
    have d3 : ({ heap := W.heap, tape := W.tape, drawn := W.drawn + 1, os := W.os, output := W.output } : World).cell? ⟨b, 3, none⟩ = some (.bool false) := f3
    have d4 : ({ heap := W.heap, tape := W.tape, drawn := W.drawn + 1, os := W.os, output := W.output } : World).cell? ⟨b, 4, none⟩ = some (.bool true) := f4
    have d5 : ({ heap := W.heap, tape := W.tape, drawn := W.drawn + 1, os := W.os, output := W.output } : World).cell? ⟨b, 5, none⟩ = some (.bool false) := f5
    have e0 : ({ heap := W.heap, tape := W.tape, drawn := W.drawn + 1, os := W.os, output := W.output } : World).cell? ⟨bT, 0, none⟩ = some (.int .i64 10) := t0
    have e1 : ({ heap := W.heap, tape := W.tape, drawn := W.drawn + 1, os := W.os, output := W.output } : World).cell? ⟨bT, 1, none⟩ = some (.string ⟨#[]⟩) := t1
    have e2 : ({ heap := W.heap, tape := W.tape, drawn := W.drawn + 1, os := W.os, output := W.output } : World).cell? ⟨bT, 2, none⟩ = some (.int .i64 (0)) := t2
    have e3 : ({ heap := W.heap, tape := W.tape, drawn := W.drawn + 1, os := W.os, output := W.output } : World).cell? ⟨bT, 3, none⟩ = some (.bool false) := t3
    have e4 : ({ heap := W.heap, tape := W.tape, drawn := W.drawn + 1, os := W.os, output := W.output } : World).cell? ⟨bT, 4, none⟩ = some (.bool true) := t4
    have e5 : ({ heap := W.heap, tape := W.tape, drawn := W.drawn + 1, os := W.os, output := W.output } : World).cell? ⟨bT, 5, none⟩ = some (.bool false) := t5
    go_still_tail 11, (by kernel_rfl)
    change wpList _ _ _ _ _ W.drew
    clear d0 d1 d2 d3 d4 d5 e0 e1 e2 e3 e4 e5 f0 f1 f2 f3 f4 f5 t0 t1 t2 t3 t4 t5
    have HB2 := Shut.mk (below_seq HB.out (below_dr W))
    generalize W.drew = w5 at *
    go_wp2_with (go_at_call 14; (with_reducible refine (awake_any _).mono ?_); rintro e w8 ⟨rfl, hb8⟩)
    go_ret
    exact ⟨rfl, below_seq HB2.out hb8⟩
set_option maxRecDepth 100000 in
set_option maxHeartbeats 3200000 in
theorem num_12nl (w : World) (u : Nat) (n sign more : Int) (hn1 : -9223372036854775808 ≤ n) (hn2 : n ≤ 9223372036854775807) (hneg : n < 0) (hu : n.natAbs = u) (hk : sign % 3 = 1) (hj : more % 5 = 2) (hlt : (u : Int) ≤ 2147483646) :
    Calls Try.prog 6 #[.int .i64 n, .int .i64 sign, .int .i64 more] w (LawPost w) := by
  have hd : nums ((strOfNums (decT n)).extract 1 (strOfNums (decT n)).size) = decD u := by
    have h0 : nums (strOfNums (decT n)) = decT n := nums_str fun x hx => by have := decT_ok _ x hx; omega
    rw [nums_from, h0]; unfold decT; rw [if_pos hneg, hu]; rfl
  have hT := num_read 1 (by decide) 2 (by decide) u ⟨#[43]⟩ ((strOfNums (decT n)).extract 1 (strOfNums (decT n)).size) ⟨#[101, 51]⟩ rfl hd rfl
  have hI := num_int 1 (by decide) u ⟨#[43]⟩ ((strOfNums (decT n)).extract 1 (strOfNums (decT n)).size) rfl hd
  have hV : heldV 1 u = (u : Int) := by unfold heldV; simp; omega
  rw [hV] at hT hI
  have hW : wantT 1 2 ((u : Int)) = { kind := 10, text := ⟨#[]⟩, int := 0, whole := false, sign := true } := by unfold wantT; simp
  rw [hW] at hT
  have hsz : (((strOfNums (decT n)).extract 1 (strOfNums (decT n)).size)).size ≤ 21 := by
    have h1 := congrArg List.length hd
    rw [nums_length] at h1
    have h2 := decD_len 19 u (by omega)
    omega
  obtain ⟨hsz2, hsz3⟩ := decT_size n (by omega)
  have hw1 : IntKind.u64.wrap (-IntKind.u64.wrap n) = (u : Int) := by rw [IntKind.wrap_u64, IntKind.wrap_u64]; omega
  have hw3 : IntKind.i64.wrap (u : Int) = (u : Int) := by exact IntWalk.i64_in _ (by omega)
  have hw4 : IntKind.i64.wrap (-(u : Int)) = -(u : Int) := by exact IntWalk.i64_in _ (by omega)
  have q0 : ∀ w : World, (binOp .eql 33 (.agg #[.int .i64 10, .string ⟨#[]⟩, .int .i64 (0), .bool false, .bool true, .bool false]) (.agg #[.int .i64 10, .string ⟨#[]⟩, .int .i64 (0), .bool false, .bool true, .bool false])).run Try.prog w = .ok (.bool true) w := fun w => tokRefl_run { kind := 10, text := ⟨#[]⟩, int := 0, whole := false, sign := true } w
  have hsz4 : (1 : Int) ≤ ((strOfNums (decT n)).size : Int) := by omega
  have hdb : -9223372036854775808 ≤ n ∧ n ≤ 9223372036854775807 := by omega
  have hbig : ¬ 9223372036854775807 < (strOfNums (decT n)).size := by omega
  have hisz : (⟨#[43]⟩ ++ ((strOfNums (decT n)).extract 1 (strOfNums (decT n)).size)).size ≤ 1000000000 := by simp only [ByteArray.size_append]; first | omega | (show 1 + _ ≤ _; omega)
  have HT := Lib.hid hT
  have HD := Lib.hid hd
  clear hT hV hW hd HD hu
  go_enter Try.func6, Try.ntmps6
  go_wp2_with (first | (go_at_call 23; (with_reducible refine (round_any _ 3 1 _ (by decide) (by decide) hk).mono ?_); rintro e w1 ⟨rfl, rfl⟩) | (go_at_call 23; (with_reducible refine (round_any _ 5 2 _ (by decide) (by decide) hj).mono ?_); rintro e w1 ⟨rfl, rfl⟩) | (go_at_call 25; (with_reducible refine (decimal_any _ _ hdb).mono ?_); rintro e w1 ⟨rfl, hb1⟩) | (go_at_call 19; (with_reducible refine (int_any _ _ ?_).mono ?_); exact hisz; rintro e w2 ⟨rfl, hb2⟩))
  refine (allT_any _ _ ?_).mono ?_
  · simp only [ByteArray.size_append]; first | omega | (show 1 + _ ≤ _; omega) | (show _ + 2 ≤ _; omega) | (show _ + 1 ≤ _; omega) | (show 1 + _ + 2 ≤ _; omega) | (show 1 + _ + 1 ≤ _; omega)
  rintro e w3 ⟨v3, rfl, hr3, hb3⟩
  rw [HT.out] at hr3
  obtain ⟨a, c, rfl, hle, hcell⟩ := hr3
  obtain ⟨b, rfl, hlt2, hc⟩ := hcell (by simp)
  have f0 := hc 0 _ rfl
  have f1 := hc 1 _ rfl
  have f2 := hc 2 _ rfl
  have f3 := hc 3 _ rfl
  have f4 := hc 4 _ rfl
  have f5 := hc 5 _ rfl
  simp only [List.length_cons, List.length_nil] at hle ⊢
  clear hc hcell
  go_upto_region 23 with fail
  have SH : Shut ((u : Int) ≤ 2147483646) := ⟨hlt⟩
  have HB := Shut.mk (below_seq (below_seq (below_seq (below_seq (below_seq hb1 (below_al _ _)) hb2) (below_al _ _)) hb3) (below_seq (below_al w3 (.cells #[.int .i64 10, .int .i64 10, .int .i64 10, .int .i64 12, .int .i64 11] 3)) (below_al _ (.cells #[.int .i64 10, .string ⟨#[]⟩, .int .i64 (0), .bool false, .bool true, .bool false] 33))))
  have hBW := below_seq (below_al w3 (.cells #[.int .i64 10, .int .i64 10, .int .i64 10, .int .i64 12, .int .i64 11] 3)) (below_al _ (.cells #[.int .i64 10, .string ⟨#[]⟩, .int .i64 (0), .bool false, .bool true, .bool false] 33))
  have hTB := heap_alloc_self (w3.alloc (.cells #[.int .i64 10, .int .i64 10, .int .i64 10, .int .i64 12, .int .i64 11] 3)) (.cells #[.int .i64 10, .string ⟨#[]⟩, .int .i64 (0), .bool false, .bool true, .bool false] 33)
  have hs3 : (w3.alloc (.cells #[.int .i64 10, .int .i64 10, .int .i64 10, .int .i64 12, .int .i64 11] 3)).heap.size = w3.heap.size + 1 := by simp
  rw [hs3] at hTB
  replace f0 := (hBW.cell (p := ⟨b, 0, none⟩) hlt2).trans f0
  replace f1 := (hBW.cell (p := ⟨b, 1, none⟩) hlt2).trans f1
  replace f2 := (hBW.cell (p := ⟨b, 2, none⟩) hlt2).trans f2
  replace f3 := (hBW.cell (p := ⟨b, 3, none⟩) hlt2).trans f3
  replace f4 := (hBW.cell (p := ⟨b, 4, none⟩) hlt2).trans f4
  replace f5 := (hBW.cell (p := ⟨b, 5, none⟩) hlt2).trans f5
  clear hlt hs3 hBW hb1 hb2 hb3 hlt2 HT
  generalize (w3.alloc (.cells #[.int .i64 10, .int .i64 10, .int .i64 10, .int .i64 12, .int .i64 11] 3)).alloc (.cells #[.int .i64 10, .string ⟨#[]⟩, .int .i64 (0), .bool false, .bool true, .bool false] 33) = W at *
  generalize w3.heap.size + 1 = bT at *
  have t0 : W.cell? ⟨bT, 0, none⟩ = some (.int .i64 10) := by simp [World.cell?, hTB]
  have t1 : W.cell? ⟨bT, 1, none⟩ = some (.string ⟨#[]⟩) := by simp [World.cell?, hTB]
  have t2 : W.cell? ⟨bT, 2, none⟩ = some (.int .i64 (0)) := by simp [World.cell?, hTB]
  have t3 : W.cell? ⟨bT, 3, none⟩ = some (.bool false) := by simp [World.cell?, hTB]
  have t4 : W.cell? ⟨bT, 4, none⟩ = some (.bool true) := by simp [World.cell?, hTB]
  have t5 : W.cell? ⟨bT, 5, none⟩ = some (.bool false) := by simp [World.cell?, hTB]
  clear hTB
  go_cut [76] (fun s wx => s = .bool true ∧ W = wx)
  case first =>
    clear f0 f1 f2 f3 f4 f5 t0 t1 t2 t3 t4 t5
    go_wp2
    go_meet
    case rel => exact ⟨ret_b (by have := SH.out; simp; omega), rfl⟩
  case rest =>
    obtain ⟨rfl, rfl⟩ := hcut
    clear SH
    go_wp2
    have d0 : ({ heap := W.heap, tape := W.tape, drawn := W.drawn + 1, os := W.os, output := W.output } : World).cell? ⟨b, 0, none⟩ = some (.int .i64 10) := f0
    have d1 : ({ heap := W.heap, tape := W.tape, drawn := W.drawn + 1, os := W.os, output := W.output } : World).cell? ⟨b, 1, none⟩ = some (.string ⟨#[]⟩) := f1
    have d2 : ({ heap := W.heap, tape := W.tape, drawn := W.drawn + 1, os := W.os, output := W.output } : World).cell? ⟨b, 2, none⟩ = some (.int .i64 (0)) := f2
    have d3 : ({ heap := W.heap, tape := W.tape, drawn := W.drawn + 1, os := W.os, output := W.output } : World).cell? ⟨b, 3, none⟩ = some (.bool false) := f3
    have d4 : ({ heap := W.heap, tape := W.tape, drawn := W.drawn + 1, os := W.os, output := W.output } : World).cell? ⟨b, 4, none⟩ = some (.bool true) := f4
    have d5 : ({ heap := W.heap, tape := W.tape, drawn := W.drawn + 1, os := W.os, output := W.output } : World).cell? ⟨b, 5, none⟩ = some (.bool false) := f5
    have e0 : ({ heap := W.heap, tape := W.tape, drawn := W.drawn + 1, os := W.os, output := W.output } : World).cell? ⟨bT, 0, none⟩ = some (.int .i64 10) := t0
    have e1 : ({ heap := W.heap, tape := W.tape, drawn := W.drawn + 1, os := W.os, output := W.output } : World).cell? ⟨bT, 1, none⟩ = some (.string ⟨#[]⟩) := t1
    have e2 : ({ heap := W.heap, tape := W.tape, drawn := W.drawn + 1, os := W.os, output := W.output } : World).cell? ⟨bT, 2, none⟩ = some (.int .i64 (0)) := t2
    have e3 : ({ heap := W.heap, tape := W.tape, drawn := W.drawn + 1, os := W.os, output := W.output } : World).cell? ⟨bT, 3, none⟩ = some (.bool false) := t3
    have e4 : ({ heap := W.heap, tape := W.tape, drawn := W.drawn + 1, os := W.os, output := W.output } : World).cell? ⟨bT, 4, none⟩ = some (.bool true) := t4
    have e5 : ({ heap := W.heap, tape := W.tape, drawn := W.drawn + 1, os := W.os, output := W.output } : World).cell? ⟨bT, 5, none⟩ = some (.bool false) := t5
    go_still_tail 11, (by kernel_rfl)
    change wpList _ _ _ _ _ W.drew
    clear d0 d1 d2 d3 d4 d5 e0 e1 e2 e3 e4 e5 f0 f1 f2 f3 f4 f5 t0 t1 t2 t3 t4 t5
    have HB2 := Shut.mk (below_seq HB.out (below_dr W))
    generalize W.drew = w5 at *
    go_wp2_with (go_at_call 14; (with_reducible refine (awake_any _).mono ?_); rintro e w8 ⟨rfl, hb8⟩)
    go_ret
    exact ⟨rfl, below_seq HB2.out hb8⟩
set_option maxRecDepth 100000 in
set_option maxHeartbeats 3200000 in
theorem num_12nh (w : World) (u : Nat) (n sign more : Int) (hn1 : -9223372036854775808 ≤ n) (hn2 : n ≤ 9223372036854775807) (hneg : n < 0) (hu : n.natAbs = u) (hk : sign % 3 = 1) (hj : more % 5 = 2) (hlt : 2147483647 ≤ (u : Int)) :
    Calls Try.prog 6 #[.int .i64 n, .int .i64 sign, .int .i64 more] w (LawPost w) := by
  have hd : nums ((strOfNums (decT n)).extract 1 (strOfNums (decT n)).size) = decD u := by
    have h0 : nums (strOfNums (decT n)) = decT n := nums_str fun x hx => by have := decT_ok _ x hx; omega
    rw [nums_from, h0]; unfold decT; rw [if_pos hneg, hu]; rfl
  have hT := num_read 1 (by decide) 2 (by decide) u ⟨#[43]⟩ ((strOfNums (decT n)).extract 1 (strOfNums (decT n)).size) ⟨#[101, 51]⟩ rfl hd rfl
  have hI := num_int 1 (by decide) u ⟨#[43]⟩ ((strOfNums (decT n)).extract 1 (strOfNums (decT n)).size) rfl hd
  have hV : heldV 1 u = 2147483647 := by unfold heldV; simp; omega
  rw [hV] at hT hI
  have hW : wantT 1 2 (2147483647) = { kind := 10, text := ⟨#[]⟩, int := 0, whole := false, sign := true } := by unfold wantT; simp
  rw [hW] at hT
  have hsz : (((strOfNums (decT n)).extract 1 (strOfNums (decT n)).size)).size ≤ 21 := by
    have h1 := congrArg List.length hd
    rw [nums_length] at h1
    have h2 := decD_len 19 u (by omega)
    omega
  obtain ⟨hsz2, hsz3⟩ := decT_size n (by omega)
  have hw1 : IntKind.u64.wrap (-IntKind.u64.wrap n) = (u : Int) := by rw [IntKind.wrap_u64, IntKind.wrap_u64]; omega
  have q0 : ∀ w : World, (binOp .eql 33 (.agg #[.int .i64 10, .string ⟨#[]⟩, .int .i64 (0), .bool false, .bool true, .bool false]) (.agg #[.int .i64 10, .string ⟨#[]⟩, .int .i64 (0), .bool false, .bool true, .bool false])).run Try.prog w = .ok (.bool true) w := fun w => tokRefl_run { kind := 10, text := ⟨#[]⟩, int := 0, whole := false, sign := true } w
  have hsz4 : (1 : Int) ≤ ((strOfNums (decT n)).size : Int) := by omega
  have hdb : -9223372036854775808 ≤ n ∧ n ≤ 9223372036854775807 := by omega
  have hbig : ¬ 9223372036854775807 < (strOfNums (decT n)).size := by omega
  have hisz : (⟨#[43]⟩ ++ ((strOfNums (decT n)).extract 1 (strOfNums (decT n)).size)).size ≤ 1000000000 := by simp only [ByteArray.size_append]; first | omega | (show 1 + _ ≤ _; omega)
  have HT := Lib.hid hT
  have HD := Lib.hid hd
  clear hT hV hW hd HD hu
  go_enter Try.func6, Try.ntmps6
  go_wp2_with (first | (go_at_call 23; (with_reducible refine (round_any _ 3 1 _ (by decide) (by decide) hk).mono ?_); rintro e w1 ⟨rfl, rfl⟩) | (go_at_call 23; (with_reducible refine (round_any _ 5 2 _ (by decide) (by decide) hj).mono ?_); rintro e w1 ⟨rfl, rfl⟩) | (go_at_call 25; (with_reducible refine (decimal_any _ _ hdb).mono ?_); rintro e w1 ⟨rfl, hb1⟩) | (go_at_call 19; (with_reducible refine (int_any _ _ ?_).mono ?_); exact hisz; rintro e w2 ⟨rfl, hb2⟩))
  refine (allT_any _ _ ?_).mono ?_
  · simp only [ByteArray.size_append]; first | omega | (show 1 + _ ≤ _; omega) | (show _ + 2 ≤ _; omega) | (show _ + 1 ≤ _; omega) | (show 1 + _ + 2 ≤ _; omega) | (show 1 + _ + 1 ≤ _; omega)
  rintro e w3 ⟨v3, rfl, hr3, hb3⟩
  rw [HT.out] at hr3
  obtain ⟨a, c, rfl, hle, hcell⟩ := hr3
  obtain ⟨b, rfl, hlt2, hc⟩ := hcell (by simp)
  have f0 := hc 0 _ rfl
  have f1 := hc 1 _ rfl
  have f2 := hc 2 _ rfl
  have f3 := hc 3 _ rfl
  have f4 := hc 4 _ rfl
  have f5 := hc 5 _ rfl
  simp only [List.length_cons, List.length_nil] at hle ⊢
  clear hc hcell
  go_upto_region 23 with fail
  have SH : Shut (2147483647 ≤ (u : Int)) := ⟨hlt⟩
  have HB := Shut.mk (below_seq (below_seq (below_seq (below_seq (below_seq hb1 (below_al _ _)) hb2) (below_al _ _)) hb3) (below_seq (below_al w3 (.cells #[.int .i64 10, .int .i64 10, .int .i64 10, .int .i64 12, .int .i64 11] 3)) (below_al _ (.cells #[.int .i64 10, .string ⟨#[]⟩, .int .i64 (0), .bool false, .bool true, .bool false] 33))))
  have hBW := below_seq (below_al w3 (.cells #[.int .i64 10, .int .i64 10, .int .i64 10, .int .i64 12, .int .i64 11] 3)) (below_al _ (.cells #[.int .i64 10, .string ⟨#[]⟩, .int .i64 (0), .bool false, .bool true, .bool false] 33))
  have hTB := heap_alloc_self (w3.alloc (.cells #[.int .i64 10, .int .i64 10, .int .i64 10, .int .i64 12, .int .i64 11] 3)) (.cells #[.int .i64 10, .string ⟨#[]⟩, .int .i64 (0), .bool false, .bool true, .bool false] 33)
  have hs3 : (w3.alloc (.cells #[.int .i64 10, .int .i64 10, .int .i64 10, .int .i64 12, .int .i64 11] 3)).heap.size = w3.heap.size + 1 := by simp
  rw [hs3] at hTB
  replace f0 := (hBW.cell (p := ⟨b, 0, none⟩) hlt2).trans f0
  replace f1 := (hBW.cell (p := ⟨b, 1, none⟩) hlt2).trans f1
  replace f2 := (hBW.cell (p := ⟨b, 2, none⟩) hlt2).trans f2
  replace f3 := (hBW.cell (p := ⟨b, 3, none⟩) hlt2).trans f3
  replace f4 := (hBW.cell (p := ⟨b, 4, none⟩) hlt2).trans f4
  replace f5 := (hBW.cell (p := ⟨b, 5, none⟩) hlt2).trans f5
  clear hlt hs3 hBW hb1 hb2 hb3 hlt2 HT
  generalize (w3.alloc (.cells #[.int .i64 10, .int .i64 10, .int .i64 10, .int .i64 12, .int .i64 11] 3)).alloc (.cells #[.int .i64 10, .string ⟨#[]⟩, .int .i64 (0), .bool false, .bool true, .bool false] 33) = W at *
  generalize w3.heap.size + 1 = bT at *
  have t0 : W.cell? ⟨bT, 0, none⟩ = some (.int .i64 10) := by simp [World.cell?, hTB]
  have t1 : W.cell? ⟨bT, 1, none⟩ = some (.string ⟨#[]⟩) := by simp [World.cell?, hTB]
  have t2 : W.cell? ⟨bT, 2, none⟩ = some (.int .i64 (0)) := by simp [World.cell?, hTB]
  have t3 : W.cell? ⟨bT, 3, none⟩ = some (.bool false) := by simp [World.cell?, hTB]
  have t4 : W.cell? ⟨bT, 4, none⟩ = some (.bool true) := by simp [World.cell?, hTB]
  have t5 : W.cell? ⟨bT, 5, none⟩ = some (.bool false) := by simp [World.cell?, hTB]
  clear hTB
  go_cut [76] (fun s wx => s = .bool false ∧ W = wx)
  case first =>
    clear f0 f1 f2 f3 f4 f5 t0 t1 t2 t3 t4 t5
    go_wp2
    go_meet
    case rel => exact ⟨ret_b (by have := SH.out; simp; omega), rfl⟩
  case rest =>
    obtain ⟨rfl, rfl⟩ := hcut
    clear SH
    go_wp2
    have d0 : ({ heap := W.heap, tape := W.tape, drawn := W.drawn + 1, os := W.os, output := W.output } : World).cell? ⟨b, 0, none⟩ = some (.int .i64 10) := f0
    have d1 : ({ heap := W.heap, tape := W.tape, drawn := W.drawn + 1, os := W.os, output := W.output } : World).cell? ⟨b, 1, none⟩ = some (.string ⟨#[]⟩) := f1
    have d2 : ({ heap := W.heap, tape := W.tape, drawn := W.drawn + 1, os := W.os, output := W.output } : World).cell? ⟨b, 2, none⟩ = some (.int .i64 (0)) := f2
    have d3 : ({ heap := W.heap, tape := W.tape, drawn := W.drawn + 1, os := W.os, output := W.output } : World).cell? ⟨b, 3, none⟩ = some (.bool false) := f3
    have d4 : ({ heap := W.heap, tape := W.tape, drawn := W.drawn + 1, os := W.os, output := W.output } : World).cell? ⟨b, 4, none⟩ = some (.bool true) := f4
    have d5 : ({ heap := W.heap, tape := W.tape, drawn := W.drawn + 1, os := W.os, output := W.output } : World).cell? ⟨b, 5, none⟩ = some (.bool false) := f5
    have e0 : ({ heap := W.heap, tape := W.tape, drawn := W.drawn + 1, os := W.os, output := W.output } : World).cell? ⟨bT, 0, none⟩ = some (.int .i64 10) := t0
    have e1 : ({ heap := W.heap, tape := W.tape, drawn := W.drawn + 1, os := W.os, output := W.output } : World).cell? ⟨bT, 1, none⟩ = some (.string ⟨#[]⟩) := t1
    have e2 : ({ heap := W.heap, tape := W.tape, drawn := W.drawn + 1, os := W.os, output := W.output } : World).cell? ⟨bT, 2, none⟩ = some (.int .i64 (0)) := t2
    have e3 : ({ heap := W.heap, tape := W.tape, drawn := W.drawn + 1, os := W.os, output := W.output } : World).cell? ⟨bT, 3, none⟩ = some (.bool false) := t3
    have e4 : ({ heap := W.heap, tape := W.tape, drawn := W.drawn + 1, os := W.os, output := W.output } : World).cell? ⟨bT, 4, none⟩ = some (.bool true) := t4
    have e5 : ({ heap := W.heap, tape := W.tape, drawn := W.drawn + 1, os := W.os, output := W.output } : World).cell? ⟨bT, 5, none⟩ = some (.bool false) := t5
    go_still_tail 11, (by kernel_rfl)
    change wpList _ _ _ _ _ W.drew
    clear d0 d1 d2 d3 d4 d5 e0 e1 e2 e3 e4 e5 f0 f1 f2 f3 f4 f5 t0 t1 t2 t3 t4 t5
    have HB2 := Shut.mk (below_seq HB.out (below_dr W))
    generalize W.drew = w5 at *
    go_wp2_with (go_at_call 14; (with_reducible refine (awake_any _).mono ?_); rintro e w8 ⟨rfl, hb8⟩)
    go_ret
    exact ⟨rfl, below_seq HB2.out hb8⟩
set_option maxRecDepth 100000 in
set_option maxHeartbeats 3200000 in
theorem num_13nl (w : World) (u : Nat) (n sign more : Int) (hn1 : -9223372036854775808 ≤ n) (hn2 : n ≤ 9223372036854775807) (hneg : n < 0) (hu : n.natAbs = u) (hk : sign % 3 = 1) (hj : more % 5 = 3) (hlt : (u : Int) ≤ 2147483646) :
    Calls Try.prog 6 #[.int .i64 n, .int .i64 sign, .int .i64 more] w (LawPost w) := by
  have hd : nums ((strOfNums (decT n)).extract 1 (strOfNums (decT n)).size) = decD u := by
    have h0 : nums (strOfNums (decT n)) = decT n := nums_str fun x hx => by have := decT_ok _ x hx; omega
    rw [nums_from, h0]; unfold decT; rw [if_pos hneg, hu]; rfl
  have hT := num_read 1 (by decide) 3 (by decide) u ⟨#[43]⟩ ((strOfNums (decT n)).extract 1 (strOfNums (decT n)).size) ⟨#[112, 120]⟩ rfl hd rfl
  have hI := num_int 1 (by decide) u ⟨#[43]⟩ ((strOfNums (decT n)).extract 1 (strOfNums (decT n)).size) rfl hd
  have hV : heldV 1 u = (u : Int) := by unfold heldV; simp; omega
  rw [hV] at hT hI
  have hW : wantT 1 3 ((u : Int)) = { kind := 12, text := ⟨#[112, 120]⟩, int := (u : Int), whole := true, sign := true } := by unfold wantT; simp
  rw [hW] at hT
  have hsz : (((strOfNums (decT n)).extract 1 (strOfNums (decT n)).size)).size ≤ 21 := by
    have h1 := congrArg List.length hd
    rw [nums_length] at h1
    have h2 := decD_len 19 u (by omega)
    omega
  obtain ⟨hsz2, hsz3⟩ := decT_size n (by omega)
  have hw1 : IntKind.u64.wrap (-IntKind.u64.wrap n) = (u : Int) := by rw [IntKind.wrap_u64, IntKind.wrap_u64]; omega
  have hw3 : IntKind.i64.wrap (u : Int) = (u : Int) := by exact IntWalk.i64_in _ (by omega)
  have hw4 : IntKind.i64.wrap (-(u : Int)) = -(u : Int) := by exact IntWalk.i64_in _ (by omega)
  have q0 : ∀ w : World, (binOp .eql 33 (.agg #[.int .i64 12, .string ⟨#[112, 120]⟩, .int .i64 ((u : Int)), .bool true, .bool true, .bool false]) (.agg #[.int .i64 12, .string ⟨#[112, 120]⟩, .int .i64 ((u : Int)), .bool true, .bool true, .bool false])).run Try.prog w = .ok (.bool true) w := fun w => tokRefl_run { kind := 12, text := ⟨#[112, 120]⟩, int := (u : Int), whole := true, sign := true } w
  have hsz4 : (1 : Int) ≤ ((strOfNums (decT n)).size : Int) := by omega
  have hdb : -9223372036854775808 ≤ n ∧ n ≤ 9223372036854775807 := by omega
  have hbig : ¬ 9223372036854775807 < (strOfNums (decT n)).size := by omega
  have hisz : (⟨#[43]⟩ ++ ((strOfNums (decT n)).extract 1 (strOfNums (decT n)).size)).size ≤ 1000000000 := by simp only [ByteArray.size_append]; first | omega | (show 1 + _ ≤ _; omega)
  have HT := Lib.hid hT
  have HD := Lib.hid hd
  clear hT hV hW hd HD hu
  go_enter Try.func6, Try.ntmps6
  go_wp2_with (first | (go_at_call 23; (with_reducible refine (round_any _ 3 1 _ (by decide) (by decide) hk).mono ?_); rintro e w1 ⟨rfl, rfl⟩) | (go_at_call 23; (with_reducible refine (round_any _ 5 3 _ (by decide) (by decide) hj).mono ?_); rintro e w1 ⟨rfl, rfl⟩) | (go_at_call 25; (with_reducible refine (decimal_any _ _ hdb).mono ?_); rintro e w1 ⟨rfl, hb1⟩) | (go_at_call 19; (with_reducible refine (int_any _ _ ?_).mono ?_); exact hisz; rintro e w2 ⟨rfl, hb2⟩))
  refine (allT_any _ _ ?_).mono ?_
  · simp only [ByteArray.size_append]; first | omega | (show 1 + _ ≤ _; omega) | (show _ + 2 ≤ _; omega) | (show _ + 1 ≤ _; omega) | (show 1 + _ + 2 ≤ _; omega) | (show 1 + _ + 1 ≤ _; omega)
  rintro e w3 ⟨v3, rfl, hr3, hb3⟩
  rw [HT.out] at hr3
  obtain ⟨a, c, rfl, hle, hcell⟩ := hr3
  obtain ⟨b, rfl, hlt2, hc⟩ := hcell (by simp)
  have f0 := hc 0 _ rfl
  have f1 := hc 1 _ rfl
  have f2 := hc 2 _ rfl
  have f3 := hc 3 _ rfl
  have f4 := hc 4 _ rfl
  have f5 := hc 5 _ rfl
  simp only [List.length_cons, List.length_nil] at hle ⊢
  clear hc hcell
  go_upto_region 23 with fail
  have SH : Shut ((u : Int) ≤ 2147483646) := ⟨hlt⟩
  have HB := Shut.mk (below_seq (below_seq (below_seq (below_seq (below_seq hb1 (below_al _ _)) hb2) (below_al _ _)) hb3) (below_seq (below_al w3 (.cells #[.int .i64 10, .int .i64 10, .int .i64 10, .int .i64 12, .int .i64 11] 3)) (below_al _ (.cells #[.int .i64 12, .string ⟨#[112, 120]⟩, .int .i64 ((u : Int)), .bool true, .bool true, .bool false] 33))))
  have hBW := below_seq (below_al w3 (.cells #[.int .i64 10, .int .i64 10, .int .i64 10, .int .i64 12, .int .i64 11] 3)) (below_al _ (.cells #[.int .i64 12, .string ⟨#[112, 120]⟩, .int .i64 ((u : Int)), .bool true, .bool true, .bool false] 33))
  have hTB := heap_alloc_self (w3.alloc (.cells #[.int .i64 10, .int .i64 10, .int .i64 10, .int .i64 12, .int .i64 11] 3)) (.cells #[.int .i64 12, .string ⟨#[112, 120]⟩, .int .i64 ((u : Int)), .bool true, .bool true, .bool false] 33)
  have hs3 : (w3.alloc (.cells #[.int .i64 10, .int .i64 10, .int .i64 10, .int .i64 12, .int .i64 11] 3)).heap.size = w3.heap.size + 1 := by simp
  rw [hs3] at hTB
  replace f0 := (hBW.cell (p := ⟨b, 0, none⟩) hlt2).trans f0
  replace f1 := (hBW.cell (p := ⟨b, 1, none⟩) hlt2).trans f1
  replace f2 := (hBW.cell (p := ⟨b, 2, none⟩) hlt2).trans f2
  replace f3 := (hBW.cell (p := ⟨b, 3, none⟩) hlt2).trans f3
  replace f4 := (hBW.cell (p := ⟨b, 4, none⟩) hlt2).trans f4
  replace f5 := (hBW.cell (p := ⟨b, 5, none⟩) hlt2).trans f5
  clear hlt hs3 hBW hb1 hb2 hb3 hlt2 HT
  generalize (w3.alloc (.cells #[.int .i64 10, .int .i64 10, .int .i64 10, .int .i64 12, .int .i64 11] 3)).alloc (.cells #[.int .i64 12, .string ⟨#[112, 120]⟩, .int .i64 ((u : Int)), .bool true, .bool true, .bool false] 33) = W at *
  generalize w3.heap.size + 1 = bT at *
  have t0 : W.cell? ⟨bT, 0, none⟩ = some (.int .i64 12) := by simp [World.cell?, hTB]
  have t1 : W.cell? ⟨bT, 1, none⟩ = some (.string ⟨#[112, 120]⟩) := by simp [World.cell?, hTB]
  have t2 : W.cell? ⟨bT, 2, none⟩ = some (.int .i64 ((u : Int))) := by simp [World.cell?, hTB]
  have t3 : W.cell? ⟨bT, 3, none⟩ = some (.bool true) := by simp [World.cell?, hTB]
  have t4 : W.cell? ⟨bT, 4, none⟩ = some (.bool true) := by simp [World.cell?, hTB]
  have t5 : W.cell? ⟨bT, 5, none⟩ = some (.bool false) := by simp [World.cell?, hTB]
  clear hTB
  go_cut [76] (fun s wx => s = .bool true ∧ W = wx)
  case first =>
    clear f0 f1 f2 f3 f4 f5 t0 t1 t2 t3 t4 t5
    go_wp2
    go_meet
    case rel => exact ⟨ret_b (by have := SH.out; simp; omega), rfl⟩
  case rest =>
    obtain ⟨rfl, rfl⟩ := hcut
    clear SH
    go_wp2
    have d0 : ({ heap := W.heap, tape := W.tape, drawn := W.drawn + 1, os := W.os, output := W.output } : World).cell? ⟨b, 0, none⟩ = some (.int .i64 12) := f0
    have d1 : ({ heap := W.heap, tape := W.tape, drawn := W.drawn + 1, os := W.os, output := W.output } : World).cell? ⟨b, 1, none⟩ = some (.string ⟨#[112, 120]⟩) := f1
    have d2 : ({ heap := W.heap, tape := W.tape, drawn := W.drawn + 1, os := W.os, output := W.output } : World).cell? ⟨b, 2, none⟩ = some (.int .i64 ((u : Int))) := f2
    have d3 : ({ heap := W.heap, tape := W.tape, drawn := W.drawn + 1, os := W.os, output := W.output } : World).cell? ⟨b, 3, none⟩ = some (.bool true) := f3
    have d4 : ({ heap := W.heap, tape := W.tape, drawn := W.drawn + 1, os := W.os, output := W.output } : World).cell? ⟨b, 4, none⟩ = some (.bool true) := f4
    have d5 : ({ heap := W.heap, tape := W.tape, drawn := W.drawn + 1, os := W.os, output := W.output } : World).cell? ⟨b, 5, none⟩ = some (.bool false) := f5
    have e0 : ({ heap := W.heap, tape := W.tape, drawn := W.drawn + 1, os := W.os, output := W.output } : World).cell? ⟨bT, 0, none⟩ = some (.int .i64 12) := t0
    have e1 : ({ heap := W.heap, tape := W.tape, drawn := W.drawn + 1, os := W.os, output := W.output } : World).cell? ⟨bT, 1, none⟩ = some (.string ⟨#[112, 120]⟩) := t1
    have e2 : ({ heap := W.heap, tape := W.tape, drawn := W.drawn + 1, os := W.os, output := W.output } : World).cell? ⟨bT, 2, none⟩ = some (.int .i64 ((u : Int))) := t2
    have e3 : ({ heap := W.heap, tape := W.tape, drawn := W.drawn + 1, os := W.os, output := W.output } : World).cell? ⟨bT, 3, none⟩ = some (.bool true) := t3
    have e4 : ({ heap := W.heap, tape := W.tape, drawn := W.drawn + 1, os := W.os, output := W.output } : World).cell? ⟨bT, 4, none⟩ = some (.bool true) := t4
    have e5 : ({ heap := W.heap, tape := W.tape, drawn := W.drawn + 1, os := W.os, output := W.output } : World).cell? ⟨bT, 5, none⟩ = some (.bool false) := t5
    go_still_tail 11, (by kernel_rfl)
    change wpList _ _ _ _ _ W.drew
    clear d0 d1 d2 d3 d4 d5 e0 e1 e2 e3 e4 e5 f0 f1 f2 f3 f4 f5 t0 t1 t2 t3 t4 t5
    have HB2 := Shut.mk (below_seq HB.out (below_dr W))
    generalize W.drew = w5 at *
    go_wp2_with (go_at_call 14; (with_reducible refine (awake_any _).mono ?_); rintro e w8 ⟨rfl, hb8⟩)
    go_ret
    exact ⟨rfl, below_seq HB2.out hb8⟩
set_option maxRecDepth 100000 in
set_option maxHeartbeats 3200000 in
theorem num_13nh (w : World) (u : Nat) (n sign more : Int) (hn1 : -9223372036854775808 ≤ n) (hn2 : n ≤ 9223372036854775807) (hneg : n < 0) (hu : n.natAbs = u) (hk : sign % 3 = 1) (hj : more % 5 = 3) (hlt : 2147483647 ≤ (u : Int)) :
    Calls Try.prog 6 #[.int .i64 n, .int .i64 sign, .int .i64 more] w (LawPost w) := by
  have hd : nums ((strOfNums (decT n)).extract 1 (strOfNums (decT n)).size) = decD u := by
    have h0 : nums (strOfNums (decT n)) = decT n := nums_str fun x hx => by have := decT_ok _ x hx; omega
    rw [nums_from, h0]; unfold decT; rw [if_pos hneg, hu]; rfl
  have hT := num_read 1 (by decide) 3 (by decide) u ⟨#[43]⟩ ((strOfNums (decT n)).extract 1 (strOfNums (decT n)).size) ⟨#[112, 120]⟩ rfl hd rfl
  have hI := num_int 1 (by decide) u ⟨#[43]⟩ ((strOfNums (decT n)).extract 1 (strOfNums (decT n)).size) rfl hd
  have hV : heldV 1 u = 2147483647 := by unfold heldV; simp; omega
  rw [hV] at hT hI
  have hW : wantT 1 3 (2147483647) = { kind := 12, text := ⟨#[112, 120]⟩, int := 2147483647, whole := true, sign := true } := by unfold wantT; simp
  rw [hW] at hT
  have hsz : (((strOfNums (decT n)).extract 1 (strOfNums (decT n)).size)).size ≤ 21 := by
    have h1 := congrArg List.length hd
    rw [nums_length] at h1
    have h2 := decD_len 19 u (by omega)
    omega
  obtain ⟨hsz2, hsz3⟩ := decT_size n (by omega)
  have hw1 : IntKind.u64.wrap (-IntKind.u64.wrap n) = (u : Int) := by rw [IntKind.wrap_u64, IntKind.wrap_u64]; omega
  have q0 : ∀ w : World, (binOp .eql 33 (.agg #[.int .i64 12, .string ⟨#[112, 120]⟩, .int .i64 (2147483647), .bool true, .bool true, .bool false]) (.agg #[.int .i64 12, .string ⟨#[112, 120]⟩, .int .i64 (2147483647), .bool true, .bool true, .bool false])).run Try.prog w = .ok (.bool true) w := fun w => tokRefl_run { kind := 12, text := ⟨#[112, 120]⟩, int := 2147483647, whole := true, sign := true } w
  have hsz4 : (1 : Int) ≤ ((strOfNums (decT n)).size : Int) := by omega
  have hdb : -9223372036854775808 ≤ n ∧ n ≤ 9223372036854775807 := by omega
  have hbig : ¬ 9223372036854775807 < (strOfNums (decT n)).size := by omega
  have hisz : (⟨#[43]⟩ ++ ((strOfNums (decT n)).extract 1 (strOfNums (decT n)).size)).size ≤ 1000000000 := by simp only [ByteArray.size_append]; first | omega | (show 1 + _ ≤ _; omega)
  have HT := Lib.hid hT
  have HD := Lib.hid hd
  clear hT hV hW hd HD hu
  go_enter Try.func6, Try.ntmps6
  go_wp2_with (first | (go_at_call 23; (with_reducible refine (round_any _ 3 1 _ (by decide) (by decide) hk).mono ?_); rintro e w1 ⟨rfl, rfl⟩) | (go_at_call 23; (with_reducible refine (round_any _ 5 3 _ (by decide) (by decide) hj).mono ?_); rintro e w1 ⟨rfl, rfl⟩) | (go_at_call 25; (with_reducible refine (decimal_any _ _ hdb).mono ?_); rintro e w1 ⟨rfl, hb1⟩) | (go_at_call 19; (with_reducible refine (int_any _ _ ?_).mono ?_); exact hisz; rintro e w2 ⟨rfl, hb2⟩))
  refine (allT_any _ _ ?_).mono ?_
  · simp only [ByteArray.size_append]; first | omega | (show 1 + _ ≤ _; omega) | (show _ + 2 ≤ _; omega) | (show _ + 1 ≤ _; omega) | (show 1 + _ + 2 ≤ _; omega) | (show 1 + _ + 1 ≤ _; omega)
  rintro e w3 ⟨v3, rfl, hr3, hb3⟩
  rw [HT.out] at hr3
  obtain ⟨a, c, rfl, hle, hcell⟩ := hr3
  obtain ⟨b, rfl, hlt2, hc⟩ := hcell (by simp)
  have f0 := hc 0 _ rfl
  have f1 := hc 1 _ rfl
  have f2 := hc 2 _ rfl
  have f3 := hc 3 _ rfl
  have f4 := hc 4 _ rfl
  have f5 := hc 5 _ rfl
  simp only [List.length_cons, List.length_nil] at hle ⊢
  clear hc hcell
  go_upto_region 23 with fail
  have SH : Shut (2147483647 ≤ (u : Int)) := ⟨hlt⟩
  have HB := Shut.mk (below_seq (below_seq (below_seq (below_seq (below_seq hb1 (below_al _ _)) hb2) (below_al _ _)) hb3) (below_seq (below_al w3 (.cells #[.int .i64 10, .int .i64 10, .int .i64 10, .int .i64 12, .int .i64 11] 3)) (below_al _ (.cells #[.int .i64 12, .string ⟨#[112, 120]⟩, .int .i64 (2147483647), .bool true, .bool true, .bool false] 33))))
  have hBW := below_seq (below_al w3 (.cells #[.int .i64 10, .int .i64 10, .int .i64 10, .int .i64 12, .int .i64 11] 3)) (below_al _ (.cells #[.int .i64 12, .string ⟨#[112, 120]⟩, .int .i64 (2147483647), .bool true, .bool true, .bool false] 33))
  have hTB := heap_alloc_self (w3.alloc (.cells #[.int .i64 10, .int .i64 10, .int .i64 10, .int .i64 12, .int .i64 11] 3)) (.cells #[.int .i64 12, .string ⟨#[112, 120]⟩, .int .i64 (2147483647), .bool true, .bool true, .bool false] 33)
  have hs3 : (w3.alloc (.cells #[.int .i64 10, .int .i64 10, .int .i64 10, .int .i64 12, .int .i64 11] 3)).heap.size = w3.heap.size + 1 := by simp
  rw [hs3] at hTB
  replace f0 := (hBW.cell (p := ⟨b, 0, none⟩) hlt2).trans f0
  replace f1 := (hBW.cell (p := ⟨b, 1, none⟩) hlt2).trans f1
  replace f2 := (hBW.cell (p := ⟨b, 2, none⟩) hlt2).trans f2
  replace f3 := (hBW.cell (p := ⟨b, 3, none⟩) hlt2).trans f3
  replace f4 := (hBW.cell (p := ⟨b, 4, none⟩) hlt2).trans f4
  replace f5 := (hBW.cell (p := ⟨b, 5, none⟩) hlt2).trans f5
  clear hlt hs3 hBW hb1 hb2 hb3 hlt2 HT
  generalize (w3.alloc (.cells #[.int .i64 10, .int .i64 10, .int .i64 10, .int .i64 12, .int .i64 11] 3)).alloc (.cells #[.int .i64 12, .string ⟨#[112, 120]⟩, .int .i64 (2147483647), .bool true, .bool true, .bool false] 33) = W at *
  generalize w3.heap.size + 1 = bT at *
  have t0 : W.cell? ⟨bT, 0, none⟩ = some (.int .i64 12) := by simp [World.cell?, hTB]
  have t1 : W.cell? ⟨bT, 1, none⟩ = some (.string ⟨#[112, 120]⟩) := by simp [World.cell?, hTB]
  have t2 : W.cell? ⟨bT, 2, none⟩ = some (.int .i64 (2147483647)) := by simp [World.cell?, hTB]
  have t3 : W.cell? ⟨bT, 3, none⟩ = some (.bool true) := by simp [World.cell?, hTB]
  have t4 : W.cell? ⟨bT, 4, none⟩ = some (.bool true) := by simp [World.cell?, hTB]
  have t5 : W.cell? ⟨bT, 5, none⟩ = some (.bool false) := by simp [World.cell?, hTB]
  clear hTB
  go_cut [76] (fun s wx => s = .bool false ∧ W = wx)
  case first =>
    clear f0 f1 f2 f3 f4 f5 t0 t1 t2 t3 t4 t5
    go_wp2
    go_meet
    case rel => exact ⟨ret_b (by have := SH.out; simp; omega), rfl⟩
  case rest =>
    obtain ⟨rfl, rfl⟩ := hcut
    clear SH
    go_wp2
    have d0 : ({ heap := W.heap, tape := W.tape, drawn := W.drawn + 1, os := W.os, output := W.output } : World).cell? ⟨b, 0, none⟩ = some (.int .i64 12) := f0
    have d1 : ({ heap := W.heap, tape := W.tape, drawn := W.drawn + 1, os := W.os, output := W.output } : World).cell? ⟨b, 1, none⟩ = some (.string ⟨#[112, 120]⟩) := f1
    have d2 : ({ heap := W.heap, tape := W.tape, drawn := W.drawn + 1, os := W.os, output := W.output } : World).cell? ⟨b, 2, none⟩ = some (.int .i64 (2147483647)) := f2
    have d3 : ({ heap := W.heap, tape := W.tape, drawn := W.drawn + 1, os := W.os, output := W.output } : World).cell? ⟨b, 3, none⟩ = some (.bool true) := f3
    have d4 : ({ heap := W.heap, tape := W.tape, drawn := W.drawn + 1, os := W.os, output := W.output } : World).cell? ⟨b, 4, none⟩ = some (.bool true) := f4
    have d5 : ({ heap := W.heap, tape := W.tape, drawn := W.drawn + 1, os := W.os, output := W.output } : World).cell? ⟨b, 5, none⟩ = some (.bool false) := f5
    have e0 : ({ heap := W.heap, tape := W.tape, drawn := W.drawn + 1, os := W.os, output := W.output } : World).cell? ⟨bT, 0, none⟩ = some (.int .i64 12) := t0
    have e1 : ({ heap := W.heap, tape := W.tape, drawn := W.drawn + 1, os := W.os, output := W.output } : World).cell? ⟨bT, 1, none⟩ = some (.string ⟨#[112, 120]⟩) := t1
    have e2 : ({ heap := W.heap, tape := W.tape, drawn := W.drawn + 1, os := W.os, output := W.output } : World).cell? ⟨bT, 2, none⟩ = some (.int .i64 (2147483647)) := t2
    have e3 : ({ heap := W.heap, tape := W.tape, drawn := W.drawn + 1, os := W.os, output := W.output } : World).cell? ⟨bT, 3, none⟩ = some (.bool true) := t3
    have e4 : ({ heap := W.heap, tape := W.tape, drawn := W.drawn + 1, os := W.os, output := W.output } : World).cell? ⟨bT, 4, none⟩ = some (.bool true) := t4
    have e5 : ({ heap := W.heap, tape := W.tape, drawn := W.drawn + 1, os := W.os, output := W.output } : World).cell? ⟨bT, 5, none⟩ = some (.bool false) := t5
    go_still_tail 11, (by kernel_rfl)
    change wpList _ _ _ _ _ W.drew
    clear d0 d1 d2 d3 d4 d5 e0 e1 e2 e3 e4 e5 f0 f1 f2 f3 f4 f5 t0 t1 t2 t3 t4 t5
    have HB2 := Shut.mk (below_seq HB.out (below_dr W))
    generalize W.drew = w5 at *
    go_wp2_with (go_at_call 14; (with_reducible refine (awake_any _).mono ?_); rintro e w8 ⟨rfl, hb8⟩)
    go_ret
    exact ⟨rfl, below_seq HB2.out hb8⟩
set_option maxRecDepth 100000 in
set_option maxHeartbeats 3200000 in
theorem num_14nl (w : World) (u : Nat) (n sign more : Int) (hn1 : -9223372036854775808 ≤ n) (hn2 : n ≤ 9223372036854775807) (hneg : n < 0) (hu : n.natAbs = u) (hk : sign % 3 = 1) (hj : more % 5 = 4) (hlt : (u : Int) ≤ 2147483646) :
    Calls Try.prog 6 #[.int .i64 n, .int .i64 sign, .int .i64 more] w (LawPost w) := by
  have hd : nums ((strOfNums (decT n)).extract 1 (strOfNums (decT n)).size) = decD u := by
    have h0 : nums (strOfNums (decT n)) = decT n := nums_str fun x hx => by have := decT_ok _ x hx; omega
    rw [nums_from, h0]; unfold decT; rw [if_pos hneg, hu]; rfl
  have hT := num_read 1 (by decide) 4 (by decide) u ⟨#[43]⟩ ((strOfNums (decT n)).extract 1 (strOfNums (decT n)).size) ⟨#[37]⟩ rfl hd rfl
  have hI := num_int 1 (by decide) u ⟨#[43]⟩ ((strOfNums (decT n)).extract 1 (strOfNums (decT n)).size) rfl hd
  have hV : heldV 1 u = (u : Int) := by unfold heldV; simp; omega
  rw [hV] at hT hI
  have hW : wantT 1 4 ((u : Int)) = { kind := 11, text := ⟨#[]⟩, int := (u : Int), whole := true, sign := true } := by unfold wantT; simp
  rw [hW] at hT
  have hsz : (((strOfNums (decT n)).extract 1 (strOfNums (decT n)).size)).size ≤ 21 := by
    have h1 := congrArg List.length hd
    rw [nums_length] at h1
    have h2 := decD_len 19 u (by omega)
    omega
  obtain ⟨hsz2, hsz3⟩ := decT_size n (by omega)
  have hw1 : IntKind.u64.wrap (-IntKind.u64.wrap n) = (u : Int) := by rw [IntKind.wrap_u64, IntKind.wrap_u64]; omega
  have hw3 : IntKind.i64.wrap (u : Int) = (u : Int) := by exact IntWalk.i64_in _ (by omega)
  have hw4 : IntKind.i64.wrap (-(u : Int)) = -(u : Int) := by exact IntWalk.i64_in _ (by omega)
  have q0 : ∀ w : World, (binOp .eql 33 (.agg #[.int .i64 11, .string ⟨#[]⟩, .int .i64 ((u : Int)), .bool true, .bool true, .bool false]) (.agg #[.int .i64 11, .string ⟨#[]⟩, .int .i64 ((u : Int)), .bool true, .bool true, .bool false])).run Try.prog w = .ok (.bool true) w := fun w => tokRefl_run { kind := 11, text := ⟨#[]⟩, int := (u : Int), whole := true, sign := true } w
  have hsz4 : (1 : Int) ≤ ((strOfNums (decT n)).size : Int) := by omega
  have hdb : -9223372036854775808 ≤ n ∧ n ≤ 9223372036854775807 := by omega
  have hbig : ¬ 9223372036854775807 < (strOfNums (decT n)).size := by omega
  have hisz : (⟨#[43]⟩ ++ ((strOfNums (decT n)).extract 1 (strOfNums (decT n)).size)).size ≤ 1000000000 := by simp only [ByteArray.size_append]; first | omega | (show 1 + _ ≤ _; omega)
  have HT := Lib.hid hT
  have HD := Lib.hid hd
  clear hT hV hW hd HD hu
  go_enter Try.func6, Try.ntmps6
  go_wp2_with (first | (go_at_call 23; (with_reducible refine (round_any _ 3 1 _ (by decide) (by decide) hk).mono ?_); rintro e w1 ⟨rfl, rfl⟩) | (go_at_call 23; (with_reducible refine (round_any _ 5 4 _ (by decide) (by decide) hj).mono ?_); rintro e w1 ⟨rfl, rfl⟩) | (go_at_call 25; (with_reducible refine (decimal_any _ _ hdb).mono ?_); rintro e w1 ⟨rfl, hb1⟩) | (go_at_call 19; (with_reducible refine (int_any _ _ ?_).mono ?_); exact hisz; rintro e w2 ⟨rfl, hb2⟩))
  refine (allT_any _ _ ?_).mono ?_
  · simp only [ByteArray.size_append]; first | omega | (show 1 + _ ≤ _; omega) | (show _ + 2 ≤ _; omega) | (show _ + 1 ≤ _; omega) | (show 1 + _ + 2 ≤ _; omega) | (show 1 + _ + 1 ≤ _; omega)
  rintro e w3 ⟨v3, rfl, hr3, hb3⟩
  rw [HT.out] at hr3
  obtain ⟨a, c, rfl, hle, hcell⟩ := hr3
  obtain ⟨b, rfl, hlt2, hc⟩ := hcell (by simp)
  have f0 := hc 0 _ rfl
  have f1 := hc 1 _ rfl
  have f2 := hc 2 _ rfl
  have f3 := hc 3 _ rfl
  have f4 := hc 4 _ rfl
  have f5 := hc 5 _ rfl
  simp only [List.length_cons, List.length_nil] at hle ⊢
  clear hc hcell
  go_upto_region 23 with fail
  have SH : Shut ((u : Int) ≤ 2147483646) := ⟨hlt⟩
  have HB := Shut.mk (below_seq (below_seq (below_seq (below_seq (below_seq hb1 (below_al _ _)) hb2) (below_al _ _)) hb3) (below_seq (below_al w3 (.cells #[.int .i64 10, .int .i64 10, .int .i64 10, .int .i64 12, .int .i64 11] 3)) (below_al _ (.cells #[.int .i64 11, .string ⟨#[]⟩, .int .i64 ((u : Int)), .bool true, .bool true, .bool false] 33))))
  have hBW := below_seq (below_al w3 (.cells #[.int .i64 10, .int .i64 10, .int .i64 10, .int .i64 12, .int .i64 11] 3)) (below_al _ (.cells #[.int .i64 11, .string ⟨#[]⟩, .int .i64 ((u : Int)), .bool true, .bool true, .bool false] 33))
  have hTB := heap_alloc_self (w3.alloc (.cells #[.int .i64 10, .int .i64 10, .int .i64 10, .int .i64 12, .int .i64 11] 3)) (.cells #[.int .i64 11, .string ⟨#[]⟩, .int .i64 ((u : Int)), .bool true, .bool true, .bool false] 33)
  have hs3 : (w3.alloc (.cells #[.int .i64 10, .int .i64 10, .int .i64 10, .int .i64 12, .int .i64 11] 3)).heap.size = w3.heap.size + 1 := by simp
  rw [hs3] at hTB
  replace f0 := (hBW.cell (p := ⟨b, 0, none⟩) hlt2).trans f0
  replace f1 := (hBW.cell (p := ⟨b, 1, none⟩) hlt2).trans f1
  replace f2 := (hBW.cell (p := ⟨b, 2, none⟩) hlt2).trans f2
  replace f3 := (hBW.cell (p := ⟨b, 3, none⟩) hlt2).trans f3
  replace f4 := (hBW.cell (p := ⟨b, 4, none⟩) hlt2).trans f4
  replace f5 := (hBW.cell (p := ⟨b, 5, none⟩) hlt2).trans f5
  clear hlt hs3 hBW hb1 hb2 hb3 hlt2 HT
  generalize (w3.alloc (.cells #[.int .i64 10, .int .i64 10, .int .i64 10, .int .i64 12, .int .i64 11] 3)).alloc (.cells #[.int .i64 11, .string ⟨#[]⟩, .int .i64 ((u : Int)), .bool true, .bool true, .bool false] 33) = W at *
  generalize w3.heap.size + 1 = bT at *
  have t0 : W.cell? ⟨bT, 0, none⟩ = some (.int .i64 11) := by simp [World.cell?, hTB]
  have t1 : W.cell? ⟨bT, 1, none⟩ = some (.string ⟨#[]⟩) := by simp [World.cell?, hTB]
  have t2 : W.cell? ⟨bT, 2, none⟩ = some (.int .i64 ((u : Int))) := by simp [World.cell?, hTB]
  have t3 : W.cell? ⟨bT, 3, none⟩ = some (.bool true) := by simp [World.cell?, hTB]
  have t4 : W.cell? ⟨bT, 4, none⟩ = some (.bool true) := by simp [World.cell?, hTB]
  have t5 : W.cell? ⟨bT, 5, none⟩ = some (.bool false) := by simp [World.cell?, hTB]
  clear hTB
  go_cut [76] (fun s wx => s = .bool true ∧ W = wx)
  case first =>
    clear f0 f1 f2 f3 f4 f5 t0 t1 t2 t3 t4 t5
    go_wp2
    go_meet
    case rel => exact ⟨ret_b (by have := SH.out; simp; omega), rfl⟩
  case rest =>
    obtain ⟨rfl, rfl⟩ := hcut
    clear SH
    go_wp2
    have d0 : ({ heap := W.heap, tape := W.tape, drawn := W.drawn + 1, os := W.os, output := W.output } : World).cell? ⟨b, 0, none⟩ = some (.int .i64 11) := f0
    have d1 : ({ heap := W.heap, tape := W.tape, drawn := W.drawn + 1, os := W.os, output := W.output } : World).cell? ⟨b, 1, none⟩ = some (.string ⟨#[]⟩) := f1
    have d2 : ({ heap := W.heap, tape := W.tape, drawn := W.drawn + 1, os := W.os, output := W.output } : World).cell? ⟨b, 2, none⟩ = some (.int .i64 ((u : Int))) := f2
    have d3 : ({ heap := W.heap, tape := W.tape, drawn := W.drawn + 1, os := W.os, output := W.output } : World).cell? ⟨b, 3, none⟩ = some (.bool true) := f3
    have d4 : ({ heap := W.heap, tape := W.tape, drawn := W.drawn + 1, os := W.os, output := W.output } : World).cell? ⟨b, 4, none⟩ = some (.bool true) := f4
    have d5 : ({ heap := W.heap, tape := W.tape, drawn := W.drawn + 1, os := W.os, output := W.output } : World).cell? ⟨b, 5, none⟩ = some (.bool false) := f5
    have e0 : ({ heap := W.heap, tape := W.tape, drawn := W.drawn + 1, os := W.os, output := W.output } : World).cell? ⟨bT, 0, none⟩ = some (.int .i64 11) := t0
    have e1 : ({ heap := W.heap, tape := W.tape, drawn := W.drawn + 1, os := W.os, output := W.output } : World).cell? ⟨bT, 1, none⟩ = some (.string ⟨#[]⟩) := t1
    have e2 : ({ heap := W.heap, tape := W.tape, drawn := W.drawn + 1, os := W.os, output := W.output } : World).cell? ⟨bT, 2, none⟩ = some (.int .i64 ((u : Int))) := t2
    have e3 : ({ heap := W.heap, tape := W.tape, drawn := W.drawn + 1, os := W.os, output := W.output } : World).cell? ⟨bT, 3, none⟩ = some (.bool true) := t3
    have e4 : ({ heap := W.heap, tape := W.tape, drawn := W.drawn + 1, os := W.os, output := W.output } : World).cell? ⟨bT, 4, none⟩ = some (.bool true) := t4
    have e5 : ({ heap := W.heap, tape := W.tape, drawn := W.drawn + 1, os := W.os, output := W.output } : World).cell? ⟨bT, 5, none⟩ = some (.bool false) := t5
    go_still_tail 11, (by kernel_rfl)
    change wpList _ _ _ _ _ W.drew
    clear d0 d1 d2 d3 d4 d5 e0 e1 e2 e3 e4 e5 f0 f1 f2 f3 f4 f5 t0 t1 t2 t3 t4 t5
    have HB2 := Shut.mk (below_seq HB.out (below_dr W))
    generalize W.drew = w5 at *
    go_wp2_with (go_at_call 14; (with_reducible refine (awake_any _).mono ?_); rintro e w8 ⟨rfl, hb8⟩)
    go_ret
    exact ⟨rfl, below_seq HB2.out hb8⟩
set_option maxRecDepth 100000 in
set_option maxHeartbeats 3200000 in
theorem num_14nh (w : World) (u : Nat) (n sign more : Int) (hn1 : -9223372036854775808 ≤ n) (hn2 : n ≤ 9223372036854775807) (hneg : n < 0) (hu : n.natAbs = u) (hk : sign % 3 = 1) (hj : more % 5 = 4) (hlt : 2147483647 ≤ (u : Int)) :
    Calls Try.prog 6 #[.int .i64 n, .int .i64 sign, .int .i64 more] w (LawPost w) := by
  have hd : nums ((strOfNums (decT n)).extract 1 (strOfNums (decT n)).size) = decD u := by
    have h0 : nums (strOfNums (decT n)) = decT n := nums_str fun x hx => by have := decT_ok _ x hx; omega
    rw [nums_from, h0]; unfold decT; rw [if_pos hneg, hu]; rfl
  have hT := num_read 1 (by decide) 4 (by decide) u ⟨#[43]⟩ ((strOfNums (decT n)).extract 1 (strOfNums (decT n)).size) ⟨#[37]⟩ rfl hd rfl
  have hI := num_int 1 (by decide) u ⟨#[43]⟩ ((strOfNums (decT n)).extract 1 (strOfNums (decT n)).size) rfl hd
  have hV : heldV 1 u = 2147483647 := by unfold heldV; simp; omega
  rw [hV] at hT hI
  have hW : wantT 1 4 (2147483647) = { kind := 11, text := ⟨#[]⟩, int := 2147483647, whole := true, sign := true } := by unfold wantT; simp
  rw [hW] at hT
  have hsz : (((strOfNums (decT n)).extract 1 (strOfNums (decT n)).size)).size ≤ 21 := by
    have h1 := congrArg List.length hd
    rw [nums_length] at h1
    have h2 := decD_len 19 u (by omega)
    omega
  obtain ⟨hsz2, hsz3⟩ := decT_size n (by omega)
  have hw1 : IntKind.u64.wrap (-IntKind.u64.wrap n) = (u : Int) := by rw [IntKind.wrap_u64, IntKind.wrap_u64]; omega
  have q0 : ∀ w : World, (binOp .eql 33 (.agg #[.int .i64 11, .string ⟨#[]⟩, .int .i64 (2147483647), .bool true, .bool true, .bool false]) (.agg #[.int .i64 11, .string ⟨#[]⟩, .int .i64 (2147483647), .bool true, .bool true, .bool false])).run Try.prog w = .ok (.bool true) w := fun w => tokRefl_run { kind := 11, text := ⟨#[]⟩, int := 2147483647, whole := true, sign := true } w
  have hsz4 : (1 : Int) ≤ ((strOfNums (decT n)).size : Int) := by omega
  have hdb : -9223372036854775808 ≤ n ∧ n ≤ 9223372036854775807 := by omega
  have hbig : ¬ 9223372036854775807 < (strOfNums (decT n)).size := by omega
  have hisz : (⟨#[43]⟩ ++ ((strOfNums (decT n)).extract 1 (strOfNums (decT n)).size)).size ≤ 1000000000 := by simp only [ByteArray.size_append]; first | omega | (show 1 + _ ≤ _; omega)
  have HT := Lib.hid hT
  have HD := Lib.hid hd
  clear hT hV hW hd HD hu
  go_enter Try.func6, Try.ntmps6
  go_wp2_with (first | (go_at_call 23; (with_reducible refine (round_any _ 3 1 _ (by decide) (by decide) hk).mono ?_); rintro e w1 ⟨rfl, rfl⟩) | (go_at_call 23; (with_reducible refine (round_any _ 5 4 _ (by decide) (by decide) hj).mono ?_); rintro e w1 ⟨rfl, rfl⟩) | (go_at_call 25; (with_reducible refine (decimal_any _ _ hdb).mono ?_); rintro e w1 ⟨rfl, hb1⟩) | (go_at_call 19; (with_reducible refine (int_any _ _ ?_).mono ?_); exact hisz; rintro e w2 ⟨rfl, hb2⟩))
  refine (allT_any _ _ ?_).mono ?_
  · simp only [ByteArray.size_append]; first | omega | (show 1 + _ ≤ _; omega) | (show _ + 2 ≤ _; omega) | (show _ + 1 ≤ _; omega) | (show 1 + _ + 2 ≤ _; omega) | (show 1 + _ + 1 ≤ _; omega)
  rintro e w3 ⟨v3, rfl, hr3, hb3⟩
  rw [HT.out] at hr3
  obtain ⟨a, c, rfl, hle, hcell⟩ := hr3
  obtain ⟨b, rfl, hlt2, hc⟩ := hcell (by simp)
  have f0 := hc 0 _ rfl
  have f1 := hc 1 _ rfl
  have f2 := hc 2 _ rfl
  have f3 := hc 3 _ rfl
  have f4 := hc 4 _ rfl
  have f5 := hc 5 _ rfl
  simp only [List.length_cons, List.length_nil] at hle ⊢
  clear hc hcell
  go_upto_region 23 with fail
  have SH : Shut (2147483647 ≤ (u : Int)) := ⟨hlt⟩
  have HB := Shut.mk (below_seq (below_seq (below_seq (below_seq (below_seq hb1 (below_al _ _)) hb2) (below_al _ _)) hb3) (below_seq (below_al w3 (.cells #[.int .i64 10, .int .i64 10, .int .i64 10, .int .i64 12, .int .i64 11] 3)) (below_al _ (.cells #[.int .i64 11, .string ⟨#[]⟩, .int .i64 (2147483647), .bool true, .bool true, .bool false] 33))))
  have hBW := below_seq (below_al w3 (.cells #[.int .i64 10, .int .i64 10, .int .i64 10, .int .i64 12, .int .i64 11] 3)) (below_al _ (.cells #[.int .i64 11, .string ⟨#[]⟩, .int .i64 (2147483647), .bool true, .bool true, .bool false] 33))
  have hTB := heap_alloc_self (w3.alloc (.cells #[.int .i64 10, .int .i64 10, .int .i64 10, .int .i64 12, .int .i64 11] 3)) (.cells #[.int .i64 11, .string ⟨#[]⟩, .int .i64 (2147483647), .bool true, .bool true, .bool false] 33)
  have hs3 : (w3.alloc (.cells #[.int .i64 10, .int .i64 10, .int .i64 10, .int .i64 12, .int .i64 11] 3)).heap.size = w3.heap.size + 1 := by simp
  rw [hs3] at hTB
  replace f0 := (hBW.cell (p := ⟨b, 0, none⟩) hlt2).trans f0
  replace f1 := (hBW.cell (p := ⟨b, 1, none⟩) hlt2).trans f1
  replace f2 := (hBW.cell (p := ⟨b, 2, none⟩) hlt2).trans f2
  replace f3 := (hBW.cell (p := ⟨b, 3, none⟩) hlt2).trans f3
  replace f4 := (hBW.cell (p := ⟨b, 4, none⟩) hlt2).trans f4
  replace f5 := (hBW.cell (p := ⟨b, 5, none⟩) hlt2).trans f5
  clear hlt hs3 hBW hb1 hb2 hb3 hlt2 HT
  generalize (w3.alloc (.cells #[.int .i64 10, .int .i64 10, .int .i64 10, .int .i64 12, .int .i64 11] 3)).alloc (.cells #[.int .i64 11, .string ⟨#[]⟩, .int .i64 (2147483647), .bool true, .bool true, .bool false] 33) = W at *
  generalize w3.heap.size + 1 = bT at *
  have t0 : W.cell? ⟨bT, 0, none⟩ = some (.int .i64 11) := by simp [World.cell?, hTB]
  have t1 : W.cell? ⟨bT, 1, none⟩ = some (.string ⟨#[]⟩) := by simp [World.cell?, hTB]
  have t2 : W.cell? ⟨bT, 2, none⟩ = some (.int .i64 (2147483647)) := by simp [World.cell?, hTB]
  have t3 : W.cell? ⟨bT, 3, none⟩ = some (.bool true) := by simp [World.cell?, hTB]
  have t4 : W.cell? ⟨bT, 4, none⟩ = some (.bool true) := by simp [World.cell?, hTB]
  have t5 : W.cell? ⟨bT, 5, none⟩ = some (.bool false) := by simp [World.cell?, hTB]
  clear hTB
  go_cut [76] (fun s wx => s = .bool false ∧ W = wx)
  case first =>
    clear f0 f1 f2 f3 f4 f5 t0 t1 t2 t3 t4 t5
    go_wp2
    go_meet
    case rel => exact ⟨ret_b (by have := SH.out; simp; omega), rfl⟩
  case rest =>
    obtain ⟨rfl, rfl⟩ := hcut
    clear SH
    go_wp2
    have d0 : ({ heap := W.heap, tape := W.tape, drawn := W.drawn + 1, os := W.os, output := W.output } : World).cell? ⟨b, 0, none⟩ = some (.int .i64 11) := f0
    have d1 : ({ heap := W.heap, tape := W.tape, drawn := W.drawn + 1, os := W.os, output := W.output } : World).cell? ⟨b, 1, none⟩ = some (.string ⟨#[]⟩) := f1
    have d2 : ({ heap := W.heap, tape := W.tape, drawn := W.drawn + 1, os := W.os, output := W.output } : World).cell? ⟨b, 2, none⟩ = some (.int .i64 (2147483647)) := f2
    have d3 : ({ heap := W.heap, tape := W.tape, drawn := W.drawn + 1, os := W.os, output := W.output } : World).cell? ⟨b, 3, none⟩ = some (.bool true) := f3
    have d4 : ({ heap := W.heap, tape := W.tape, drawn := W.drawn + 1, os := W.os, output := W.output } : World).cell? ⟨b, 4, none⟩ = some (.bool true) := f4
    have d5 : ({ heap := W.heap, tape := W.tape, drawn := W.drawn + 1, os := W.os, output := W.output } : World).cell? ⟨b, 5, none⟩ = some (.bool false) := f5
    have e0 : ({ heap := W.heap, tape := W.tape, drawn := W.drawn + 1, os := W.os, output := W.output } : World).cell? ⟨bT, 0, none⟩ = some (.int .i64 11) := t0
    have e1 : ({ heap := W.heap, tape := W.tape, drawn := W.drawn + 1, os := W.os, output := W.output } : World).cell? ⟨bT, 1, none⟩ = some (.string ⟨#[]⟩) := t1
    have e2 : ({ heap := W.heap, tape := W.tape, drawn := W.drawn + 1, os := W.os, output := W.output } : World).cell? ⟨bT, 2, none⟩ = some (.int .i64 (2147483647)) := t2
    have e3 : ({ heap := W.heap, tape := W.tape, drawn := W.drawn + 1, os := W.os, output := W.output } : World).cell? ⟨bT, 3, none⟩ = some (.bool true) := t3
    have e4 : ({ heap := W.heap, tape := W.tape, drawn := W.drawn + 1, os := W.os, output := W.output } : World).cell? ⟨bT, 4, none⟩ = some (.bool true) := t4
    have e5 : ({ heap := W.heap, tape := W.tape, drawn := W.drawn + 1, os := W.os, output := W.output } : World).cell? ⟨bT, 5, none⟩ = some (.bool false) := t5
    go_still_tail 11, (by kernel_rfl)
    change wpList _ _ _ _ _ W.drew
    clear d0 d1 d2 d3 d4 d5 e0 e1 e2 e3 e4 e5 f0 f1 f2 f3 f4 f5 t0 t1 t2 t3 t4 t5
    have HB2 := Shut.mk (below_seq HB.out (below_dr W))
    generalize W.drew = w5 at *
    go_wp2_with (go_at_call 14; (with_reducible refine (awake_any _).mono ?_); rintro e w8 ⟨rfl, hb8⟩)
    go_ret
    exact ⟨rfl, below_seq HB2.out hb8⟩
end Go.Proofs.Yteflofkndlhhiaa
