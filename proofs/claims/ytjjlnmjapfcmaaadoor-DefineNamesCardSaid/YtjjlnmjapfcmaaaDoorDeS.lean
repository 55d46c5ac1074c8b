
import Derived.Test.YtjjlnmjapfcmaaaDoorDeN
import Derived.Test.YtjjlnmjapfcmaaaDoorSyQ0
import Derived.Deep.DeepMust
namespace Go.Proofs.YtjjlnmjapfcmaaaDoor
open Go.RowKit
/-! Stage 10's awake. -/
abbrev aw1 : ByteArray := ⟨#[64, 99, 111, 117, 110, 116, 101, 114, 45, 115, 116, 121, 108, 101, 32, 120, 32, 123, 32, 115, 121, 115, 116, 101, 109, 58, 32, 102, 105, 120, 101, 100, 32, 51, 59, 32, 115, 121, 109, 98, 111, 108, 115, 58, 32, 97, 32, 39, 98, 39, 59, 32, 114, 97, 110, 103, 101, 58, 32, 49, 32, 50, 44, 32, 105, 110, 102, 105, 110, 105, 116, 101, 32, 45, 53, 59, 32, 112, 97, 100, 58, 32, 39, 48, 39, 32, 52, 59, 32, 115, 117, 102, 102, 105, 120, 58, 32, 39, 41, 39, 32, 125]⟩
abbrev aw2 : ByteArray := ⟨#[64, 99, 111, 117, 110, 116, 101, 114, 45, 115, 116, 121, 108, 101, 32, 100, 101, 99, 105, 109, 97, 108, 32, 123, 32, 115, 121, 109, 98, 111, 108, 115, 58, 32, 97, 32, 125]⟩
abbrev aw3 : ByteArray := ⟨#[97, 32, 123, 32, 98, 58, 32, 99, 32, 125]⟩
abbrev aw4 : ByteArray := ⟨#[64, 99, 111, 117, 110, 116, 101, 114, 45, 115, 116, 121, 108, 101, 32, 89, 32, 123, 32, 115, 121, 115, 116, 101, 109, 58, 32, 101, 120, 116, 101, 110, 100, 115, 32, 68, 105, 115, 99, 32, 125]⟩
abbrev aw5 : ByteArray := ⟨#[32, 76, 79, 87, 69, 82, 45, 114, 111, 109, 97, 110, 32]⟩
abbrev awD1 : DefD := ⟨⟨#[120]⟩, ⟨#[102, 105, 120, 101, 100]⟩, 3, [⟨#[97]⟩, ⟨#[98]⟩], [], ⟨#[45]⟩, ⟨#[]⟩, ⟨#[]⟩, ⟨#[41]⟩, false, [(1, 2), (-2147483648, -5)], 4, ⟨#[48]⟩, ⟨#[100, 101, 99, 105, 109, 97, 108]⟩, ⟨#[]⟩, 28⟩
abbrev awD4 : DefD := ⟨⟨#[89]⟩, ⟨#[101, 120, 116, 101, 110, 100, 115]⟩, 1, [], [], ⟨#[45]⟩, ⟨#[]⟩, ⟨#[]⟩, ⟨#[46, 32]⟩, true, [], 0, ⟨#[]⟩, ⟨#[100, 101, 99, 105, 109, 97, 108]⟩, ⟨#[100, 105, 115, 99]⟩, 0⟩
theorem aw_ok1 : oneOk aw1 = true := by decide +kernel
theorem aw_ok2 : oneOk aw2 = true := by decide +kernel
theorem aw_ok3 : oneOk aw3 = true := by decide +kernel
theorem aw_ok4 : oneOk aw4 = true := by decide +kernel
theorem aw_r1 : resO aw1 = awD1 := by kernel_rfl
theorem aw_e1 : errO aw1 = 0 := by decide +kernel
theorem aw_e2 : errO aw2 = 2 := by decide +kernel
theorem aw_r2 : resO aw2 = zeroD := by kernel_rfl
theorem aw_e3 : errO aw3 = 1 := by decide +kernel
theorem aw_r3 : resO aw3 = zeroD := by kernel_rfl
theorem aw_r4 : resO aw4 = awD4 := by kernel_rfl
theorem aw_e4 : errO aw4 = 0 := by decide +kernel
theorem aw_n5 : nameS (ndsS (toks (readS aw5))) = (⟨#[108, 111, 119, 101, 114, 45, 114, 111, 109, 97, 110]⟩, true) := by kernel_rfl
theorem aw_one1 (w : World) (ht : Tab w) : Calls Tryd.prog 20 #[.string aw1] w (PPost w awD1 0) := by
  have := one_any aw1 w ht aw_ok1
  rwa [aw_r1, aw_e1] at this
theorem aw_one2 (w : World) (ht : Tab w) : Calls Tryd.prog 20 #[.string aw2] w (PPost w zeroD 2) := by
  have := one_any aw2 w ht aw_ok2
  rwa [aw_r2, aw_e2] at this
theorem aw_one3 (w : World) (ht : Tab w) : Calls Tryd.prog 20 #[.string aw3] w (PPost w zeroD 1) := by
  have := one_any aw3 w ht aw_ok3
  rwa [aw_r3, aw_e3] at this
theorem aw_one4 (w : World) (ht : Tab w) : Calls Tryd.prog 20 #[.string aw4] w (PPost w awD4 0) := by
  have := one_any aw4 w ht aw_ok4
  rwa [aw_r4, aw_e4] at this
end Go.Proofs.YtjjlnmjapfcmaaaDoor
namespace Go.Proofs.YtjjlnmjapfcmaaaDoor
open Go.RowKit
theorem rdTx_two (w : World) (x y : ByteArray) (H : Nat) (hH : w.heap.size = H) : RdTx (w.alloc (.cells #[.string x, .string y] 9)) (.slice (some ⟨H, 0, none⟩) 2 2) [x, y] := by
  subst hH
  refine ⟨_, 2, rfl, Nat.le_refl _, fun _ => ⟨_, 0, rfl, by simp, fun j hj => ?_⟩⟩
  have hc := cell_of_row (w.alloc (.cells #[.string x, .string y] 9)) w.heap.size j _ _ (0, 0) (heap_alloc_self _ _)
  rw [Nat.zero_add, hc]
  have hj5 : j < 2 := hj
  rcases (by omega : j = 0 ∨ j = 1) with rfl | rfl <;> rfl
theorem aw_sl5 : szL (ndsS (toks (readS aw5))) ≤ 100000000 := by decide +kernel
theorem aw_tx5 : TX (ndsS (toks (readS aw5))) := tx_of (by decide +kernel)
theorem eq_two (w : World) : (Op.equalIn 10000 54 (.agg #[.int .i64 (-2147483648), .int .i64 (-5)]) (.agg #[.int .i64 (-2147483648), .int .i64 (-5)])).run Tryd.prog w = .ok true w := by kernel_rfl
set_option maxRecDepth 100000 in
set_option maxHeartbeats 12800000 in
theorem awake10_any (w : World) (ht : Tab w) :
    Calls Tryd.prog 8 #[] w fun e w' => e = .returned (.bool true) ∧ Below w.heap.size w w' := by
  have HT := Lib.hid ht
  clear ht
  have heq2 := eq_two
  go_enter Tryd.func8, Tryd.ntmps8
  go_wp2_with fail
  refine (aw_one1 _ HT.out).mono ?_
  rintro e w1 ⟨⟨sv1, rv1, rfl, hs1, hr1⟩, hb1⟩
  obtain ⟨sa1, sc1, rfl⟩ := ownT_len hs1
  obtain ⟨ra1, rc1, rfl, _⟩ := row_sl hr1
  have HS1 := Lib.hid (OwnT.rd hs1)
  have HR1 := Lib.hid (OwnP.rd hr1)
  have HA1 := Lib.hid ((Below.refl w1.heap.size w1).alloc (Nat.le_refl _) (.cells (defC awD1 (.slice sa1 2 sc1) (.slice none 0 0) (.slice ra1 2 rc1)) 30))
  have HB1 := Lib.hid (below_seq hb1 HA1.out)
  have HC1 := Lib.hid (CB.new (T := 30) w1 (defC awD1 (.slice sa1 2 sc1) (.slice none 0 0) (.slice ra1 2 rc1)))
  have HT1 := Lib.hid (HT.out.below HB1.out)
  have HS1 := Lib.hid (HS1.out.below HA1.out)
  have HR1 := Lib.hid (HR1.out.below HA1.out)
  clear hs1 hr1 hb1
  go_upto_region 2 with fail
  generalize hW1 : w1.alloc (.cells _ 30) = W1 at *
  have hl1 := HC1.out.lt
  clear hW1 HA1
  go_wp2_with fail
  refine (aw_one2 _ HT1.out).mono ?_
  rintro e w2 ⟨⟨sv2, rv2, rfl, hs2, hr2⟩, hb2⟩
  obtain ⟨sa2, sc2, rfl⟩ := ownT_len hs2
  obtain ⟨ra2, rc2, rfl, _⟩ := row_sl hr2
  have HA2 := Lib.hid ((Below.refl w2.heap.size w2).alloc (Nat.le_refl _) (.cells (defC zeroD (.slice sa2 0 sc2) (.slice none 0 0) (.slice ra2 0 rc2)) 30))
  have HD2 := Lib.hid (below_seq hb2 HA2.out)
  have HC1 := Lib.hid (HC1.out.below HD2.out hl1)
  have HS1 := Lib.hid (HS1.out.below HD2.out)
  have HR1 := Lib.hid (HR1.out.below HD2.out)
  have HT2 := Lib.hid (HT1.out.below HD2.out)
  have HB2 := Lib.hid (below_seq HB1.out HD2.out)
  clear hs2 hr2 hb2
  go_upto_region 3 with fail
  generalize hW2 : w2.alloc (.cells _ 30) = W2 at *
  clear hW2 HA2 HD2
  have hl1 := HC1.out.lt
  go_wp2_with fail
  refine (aw_one3 _ HT2.out).mono ?_
  rintro e w3 ⟨⟨sv3, rv3, rfl, hs3, hr3⟩, hb3⟩
  obtain ⟨sa3, sc3, rfl⟩ := ownT_len hs3
  obtain ⟨ra3, rc3, rfl, _⟩ := row_sl hr3
  have HA3 := Lib.hid ((Below.refl w3.heap.size w3).alloc (Nat.le_refl _) (.cells (defC zeroD (.slice sa3 0 sc3) (.slice none 0 0) (.slice ra3 0 rc3)) 30))
  have HD3 := Lib.hid (below_seq hb3 HA3.out)
  have HC1 := Lib.hid (HC1.out.below HD3.out hl1)
  have HS1 := Lib.hid (HS1.out.below HD3.out)
  have HR1 := Lib.hid (HR1.out.below HD3.out)
  have HT3 := Lib.hid (HT2.out.below HD3.out)
  have HB3 := Lib.hid (below_seq HB2.out HD3.out)
  clear hs3 hr3 hb3
  go_upto_region 4 with fail
  generalize hW3 : w3.alloc (.cells _ 30) = W3 at *
  clear hW3 HA3 HD3
  have hl1 := HC1.out.lt
  go_wp2_with fail
  refine (aw_one4 _ HT3.out).mono ?_
  rintro e w4 ⟨⟨sv4, rv4, rfl, hs4, hr4⟩, hb4⟩
  obtain ⟨sa4, sc4, rfl⟩ := ownT_len hs4
  obtain ⟨ra4, rc4, rfl, _⟩ := row_sl hr4
  have HA4 := Lib.hid ((Below.refl w4.heap.size w4).alloc (Nat.le_refl _) (.cells (defC awD4 (.slice sa4 0 sc4) (.slice none 0 0) (.slice ra4 0 rc4)) 30))
  have HD4 := Lib.hid (below_seq hb4 HA4.out)
  have HC1 := Lib.hid (HC1.out.below HD4.out hl1)
  have HC4 := Lib.hid (CB.new (T := 30) w4 (defC awD4 (.slice sa4 0 sc4) (.slice none 0 0) (.slice ra4 0 rc4)))
  have HS1 := Lib.hid (HS1.out.below HD4.out)
  have HR1 := Lib.hid (HR1.out.below HD4.out)
  have HT4 := Lib.hid (HT3.out.below HD4.out)
  have HB4 := Lib.hid (below_seq HB3.out HD4.out)
  clear hs4 hr4 hb4
  go_upto_region 5 with fail
  generalize hW4 : w4.alloc (.cells _ 30) = W4 at *
  clear hW4 HA4 HD4
  have hl1 := HC1.out.lt
  have hl4 := HC4.out.lt
  go_upto_region 6 with (go_at_call 17; refine (symbol_any { kind := 5, text := ⟨#[113]⟩ } none 0 0 _).mono ?_; rintro e w5 ⟨rfl, hb5⟩; rw [show symS { kind := 5, text := ⟨#[113]⟩ } = (⟨#[113]⟩, true) from by kernel_rfl])
  have HB5 := Lib.hid hb5
  clear hb5
  go_wp2_with (first | (go_at_call 14; refine (nodes10_any aw5 _ (by decide)).mono ?_; rintro e w6 ⟨⟨v6, rfl, hr6⟩, hb6⟩; have HR6 := Lib.hid hr6; have HB6 := Lib.hid (below_seq HB5.out hb6); clear hb6 hr6) | (go_at_call 15; refine (name_any (HT4.out.below HB6.out) HR6.out aw_sl5 aw_tx5).mono ?_; rintro e w7 ⟨rfl, hb7⟩; rw [aw_n5]; have HB7 := Lib.hid (below_seq HB6.out hb7); have HC7 := Lib.hid (HC1.out.below HB7.out hl1); have HD7 := Lib.hid (HC4.out.below HB7.out hl4); have HS7 := Lib.hid ((HS1.out.below HB7.out).below ((Below.refl w7.heap.size w7).alloc (Nat.le_refl _) (.cells #[.string ⟨#[97]⟩, .string ⟨#[98]⟩] 9))); have HA7 := Lib.hid (below_seq HB7.out ((Below.refl w7.heap.size w7).alloc (Nat.le_refl _) (.cells #[.string ⟨#[97]⟩, .string ⟨#[98]⟩] 9))); have HT7 := Lib.hid (rdTx_two w7 ⟨#[97]⟩ ⟨#[98]⟩ _ rfl); have c1 : w7.cell? ⟨w1.heap.size, 1, none⟩ = some (.string ⟨#[102, 105, 120, 101, 100]⟩) := HC7.out.cell 1; have c2 : w7.cell? ⟨w1.heap.size, 2, none⟩ = some (.int .i64 3) := HC7.out.cell 2; have c3 : w7.cell? ⟨w1.heap.size, 3, none⟩ = some (.slice sa1 2 sc1) := HC7.out.cell 3; clear hb7) | (go_at_call 23; go_must (refine (texts_any [⟨#[97]⟩, ⟨#[98]⟩] [⟨#[97]⟩, ⟨#[98]⟩] _ _ _ HS7.out HT7.out (by decide)).mono ?_); go_must (rintro e w8 ⟨rfl, hb8⟩); go_must (rw [show decide ([(⟨#[97]⟩ : ByteArray), ⟨#[98]⟩] = [⟨#[97]⟩, ⟨#[98]⟩]) = true from decide_eq_true rfl]); go_must (have HB8 := Lib.hid (below_seq HA7.out hb8)); go_must (have HC8 := Lib.hid (HC1.out.below HB8.out hl1)); go_must (have HD8 := Lib.hid (HC4.out.below HB8.out hl4)); go_must (obtain ⟨ra', rc', hv', _, hr8⟩ := HR1.out.below HB8.out); go_must (injection hv' with hv1 _ hv3); go_must (subst hv1 hv3); go_must (obtain ⟨rb, ro, hra, _, hrc⟩ := hr8 (by decide)); go_must (subst hra); go_must (have m1 := (hrc 1 (by decide)).1); go_must (have m2 := (hrc 1 (by decide)).2); go_must (simp only [List.getElem_cons_succ, List.getElem_cons_zero, Nat.one_mul] at m1 m2); go_must (have c5 : w8.cell? ⟨w1.heap.size, 5, none⟩ = some (.string ⟨#[45]⟩) := HC8.out.cell 5); go_must (have c8 : w8.cell? ⟨w1.heap.size, 8, none⟩ = some (.string ⟨#[41]⟩) := HC8.out.cell 8); go_must (have c10 : w8.cell? ⟨w1.heap.size, 10, none⟩ = some (.slice (some ⟨rb, ro, none⟩) 2 rc1) := HC8.out.cell 10); go_must (have c11 : w8.cell? ⟨w1.heap.size, 11, none⟩ = some (.int .i64 4) := HC8.out.cell 11); go_must (have c12 : w8.cell? ⟨w1.heap.size, 12, none⟩ = some (.string ⟨#[48]⟩) := HC8.out.cell 12); go_must (have c15 : w8.cell? ⟨w1.heap.size, 15, none⟩ = some (.int .i64 28) := HC8.out.cell 15); go_must (have k0 : w8.cell? ⟨w4.heap.size, 0, none⟩ = some (.string ⟨#[89]⟩) := HD8.out.cell 0); go_must (have k14 : w8.cell? ⟨w4.heap.size, 14, none⟩ = some (.string ⟨#[100, 105, 115, 99]⟩) := HD8.out.cell 14); clear hrc hb8))
  go_ret
  exact ⟨rfl, below_seq HB4.out HB8.out⟩
end Go.Proofs.YtjjlnmjapfcmaaaDoor
