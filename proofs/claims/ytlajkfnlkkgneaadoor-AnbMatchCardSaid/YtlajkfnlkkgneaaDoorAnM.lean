
import Derived.Test.YtlajkfnlkkgneaaDoorAnF
import Derived.Test.YtlajkfnlkkgneaaDoorTnB
import Derived.StillTailTactics
namespace Go.Proofs.YtlajkfnlkkgneaaDoor
open Go.RowKit Go.Shelf
theorem dI_abs (x y : Int) : dI x y = ((x - y).natAbs : Int) := by unfold dI; split <;> omega
theorem mt_up (a b x : Int) (hx : 0 ≤ x) : mtB a b (a * x + b) = true := by
  unfold mtB
  by_cases h : a * x + b = b
  · rw [if_pos h]
  rw [if_neg h]
  have hax : a * x ≠ 0 := by omega
  have ha : a ≠ 0 := fun e => hax (by rw [e, Int.zero_mul])
  have hx1 : 0 < x := by
    rcases Int.lt_or_eq_of_le hx with h | h
    · exact h
    · exact absurd (by rw [← h, Int.mul_zero]) hax
  rw [if_neg ha, dI_abs, dI_abs, show a * x + b - b = a * x by omega, show a - 0 = a by omega]
  have hs : decide (b < a * x + b) = decide (0 < a) := by
    by_cases hp : 0 < a
    · have := Int.mul_pos hp hx1
      rw [decide_eq_true hp, decide_eq_true (by omega)]
    · have := Int.mul_neg_of_neg_of_pos (show a < 0 by omega) hx1
      rw [decide_eq_false hp, decide_eq_false (by omega)]
  rw [if_pos hs]
  refine decide_eq_true ?_
  rw [Int.natAbs_mul, Int.natCast_mul]
  exact Int.mul_emod_right _ _
theorem mt_low (a b off : Int) (ha : 0 < a) (ho : 0 ≤ off) : mtB a b (b - 1 - off) = false := by
  unfold mtB
  rw [if_neg (by omega), if_neg (by omega), if_neg (by rw [decide_eq_false (show ¬ b < b - 1 - off by omega), decide_eq_true ha]; decide)]
theorem mt_high (a b off : Int) (ha : a < 0) (ho : 0 ≤ off) : mtB a b (b + 1 + off) = false := by
  unfold mtB
  rw [if_neg (by omega), if_neg (by omega), if_neg (by rw [decide_eq_true (show b < b + 1 + off by omega), decide_eq_false (show ¬ 0 < a by omega)]; decide)]
theorem add_mul_mod (k : Nat) (z off : Int) : ((z * (k : Int) + off) % (k : Int) = 0) ↔ off % (k : Int) = 0 := by
  rw [Int.add_comm, Int.add_mul_emod_self_right]
theorem mt_off_up (a b x off : Int) (ha : 2 ≤ a) (hx : 0 ≤ x) (ho : 0 ≤ off) : mtB a b (a * x + b + off) = decide (off % a = 0) := by
  have hax : 0 ≤ a * x := Int.mul_nonneg (by omega) hx
  unfold mtB
  by_cases h : a * x + b + off = b
  · have : off = 0 := by omega
    subst this
    rw [if_pos h]; simp
  rw [if_neg h, if_neg (by omega), if_pos (by rw [decide_eq_true (show b < a * x + b + off by omega), decide_eq_true (show 0 < a by omega)])]
  unfold dI
  rw [if_neg (by omega), if_neg (by omega), show a * x + b + off - b = off + a * x by omega, show a - 0 = a by omega, Int.add_mul_emod_self_left]
theorem mt_off_dn (a b x off : Int) (ha : a ≤ -2) (_hx : 0 ≤ x) (_ho : 0 ≤ off) : mtB a b (a * x + b + off) = (decide (off % (-a) = 0) && decide (a * x + off ≤ 0)) := by
  have hneg : off % (-a) = off % a := Int.emod_neg off a
  unfold mtB
  by_cases h : a * x + b + off = b
  · rw [if_pos h]
    have e : off = a * (-x) := by rw [Int.mul_neg]; omega
    rw [hneg, e, Int.mul_emod_right, decide_eq_true rfl, decide_eq_true (show a * x + a * (-x) ≤ 0 by rw [Int.mul_neg]; omega)]; rfl
  rw [if_neg h, if_neg (by omega)]
  by_cases h2 : a * x + off ≤ 0
  · rw [if_pos (by rw [decide_eq_false (show ¬ b < a * x + b + off by omega), decide_eq_false (show ¬ 0 < a by omega)]), decide_eq_true h2, Bool.and_true]
    unfold dI
    rw [if_pos (by omega), if_pos (by omega), show b - (a * x + b + off) = -(off + a * x) by omega, show 0 - a = -a by omega]
    congr 1
    rw [Int.emod_neg, hneg]
    apply propext
    rw [← Int.dvd_iff_emod_eq_zero, ← Int.dvd_iff_emod_eq_zero, Int.dvd_neg]
    constructor
    · intro h
      have := Int.dvd_sub h (Int.dvd_mul_right a x)
      rwa [Int.add_sub_cancel] at this
    · intro h
      exact Int.dvd_add h (Int.dvd_mul_right a x)
  · rw [if_neg (by rw [decide_eq_true (show b < a * x + b + off by omega), decide_eq_false (show ¬ 0 < a by omega)]; decide), decide_eq_false h2, Bool.and_false]
set_option maxRecDepth 100000 in
set_option maxHeartbeats 3200000 in
theorem bm_out (w : World) (a b x off : Int) (ht : Tab w) (h : a < -1000 ∨ 1000 < a ∨ b < -1000 ∨ 1000 < b ∨ x < 0 ∨ 1000 < x ∨ off < 0 ∨ 1000 < off) :
    Calls Tryd.prog 5 #[.int .i64 a, .int .i64 b, .int .i64 x, .int .i64 off] w fun e w' => e = .returned (.bool true) ∧ Below w.heap.size w w' := by
  have HT := Lib.hid ht
  clear ht
  by_cases c0 : a < -1000
  · clear h
    go_enter Tryd.func5, Tryd.ntmps5
    go_wp2_with (go_at_call 7; (with_reducible refine (awake5_any _ HT.out).mono ?_); rintro e w9 ⟨rfl, hb9⟩)
    go_ret
    exact ⟨rfl, hb9⟩
  by_cases c1 : 1000 < a
  · clear h
    go_enter Tryd.func5, Tryd.ntmps5
    go_wp2_with (go_at_call 7; (with_reducible refine (awake5_any _ HT.out).mono ?_); rintro e w9 ⟨rfl, hb9⟩)
    go_ret
    exact ⟨rfl, hb9⟩
  by_cases c2 : b < -1000
  · clear h
    go_enter Tryd.func5, Tryd.ntmps5
    go_wp2_with (go_at_call 7; (with_reducible refine (awake5_any _ HT.out).mono ?_); rintro e w9 ⟨rfl, hb9⟩)
    go_ret
    exact ⟨rfl, hb9⟩
  by_cases c3 : 1000 < b
  · clear h
    go_enter Tryd.func5, Tryd.ntmps5
    go_wp2_with (go_at_call 7; (with_reducible refine (awake5_any _ HT.out).mono ?_); rintro e w9 ⟨rfl, hb9⟩)
    go_ret
    exact ⟨rfl, hb9⟩
  by_cases c4 : x < 0
  · clear h
    go_enter Tryd.func5, Tryd.ntmps5
    go_wp2_with (go_at_call 7; (with_reducible refine (awake5_any _ HT.out).mono ?_); rintro e w9 ⟨rfl, hb9⟩)
    go_ret
    exact ⟨rfl, hb9⟩
  by_cases c5 : 1000 < x
  · clear h
    go_enter Tryd.func5, Tryd.ntmps5
    go_wp2_with (go_at_call 7; (with_reducible refine (awake5_any _ HT.out).mono ?_); rintro e w9 ⟨rfl, hb9⟩)
    go_ret
    exact ⟨rfl, hb9⟩
  by_cases c6 : off < 0
  · clear h
    go_enter Tryd.func5, Tryd.ntmps5
    go_wp2_with (go_at_call 7; (with_reducible refine (awake5_any _ HT.out).mono ?_); rintro e w9 ⟨rfl, hb9⟩)
    go_ret
    exact ⟨rfl, hb9⟩
  by_cases c7 : 1000 < off
  · clear h
    go_enter Tryd.func5, Tryd.ntmps5
    go_wp2_with (go_at_call 7; (with_reducible refine (awake5_any _ HT.out).mono ?_); rintro e w9 ⟨rfl, hb9⟩)
    go_ret
    exact ⟨rfl, hb9⟩
  omega
set_option maxRecDepth 100000 in
set_option maxHeartbeats 3200000 in
theorem bm_up1 (w : World) (a b x off : Int) (ht : Tab w) (h : -1000 ≤ a ∧ a ≤ 1000 ∧ -1000 ≤ b ∧ b ≤ 1000 ∧ 0 ≤ x ∧ x ≤ 1000 ∧ 0 ≤ off ∧ off ≤ 1000) (hp : 0 < a) (hq : a < 2) :
    Calls Tryd.prog 5 #[.int .i64 a, .int .i64 b, .int .i64 x, .int .i64 off] w fun e w' => e = .returned (.bool true) ∧ Below w.heap.size w w' := by
  obtain ⟨b1, b2, b3, b4, b5, b6, b7, b8⟩ := h
  have HT := Lib.hid ht
  clear ht
  have hxa : (a * x).natAbs ≤ 1000 * 1000 := by rw [Int.natAbs_mul]; exact Nat.mul_le_mul (by omega) (by omega)
  have hy1 : -1000000 ≤ a * x := by omega
  have hy2 : a * x ≤ 1000000 := by omega
  have hyw : IntKind.i64.wrap (a * x) = a * x := by rw [IntKind.wrap_i64]; omega
  have hyw2 : wrap64 (a * x) = a * x := by unfold wrap64; omega
  have HM1 := Lib.hid (mt_up a b x b5)
  have HC1 := Lib.hid (match_any a b (a * x + b) w (by omega) (by omega) (by omega))
  have hp1 : ¬ a < 0 := by omega
  have hmx : max a (-a) = a := by omega
  have HM2 := Lib.hid (mt_low a b off hp b7)
  have HC2 := Lib.hid (match_any a b (b - 1 - off) w (by omega) (by omega) (by omega))
  clear hxa
  go_enter Tryd.func5, Tryd.ntmps5
  go_wp2_with (first | (go_at_call 11; (with_reducible refine HC1.out.mono ?_); rintro e w' ⟨rfl, rfl⟩; rw [HM1.out]) | (go_at_call 11; (with_reducible refine HC2.out.mono ?_); rintro e w' ⟨rfl, rfl⟩; rw [HM2.out]) | (go_at_call 7; (with_reducible refine (awake5_any _ HT.out).mono ?_); rintro e w9 ⟨rfl, hb9⟩))
  go_ret
  exact ⟨rfl, hb9⟩
set_option maxRecDepth 100000 in
set_option maxHeartbeats 3200000 in
theorem bm_dn1 (w : World) (a b x off : Int) (ht : Tab w) (h : -1000 ≤ a ∧ a ≤ 1000 ∧ -1000 ≤ b ∧ b ≤ 1000 ∧ 0 ≤ x ∧ x ≤ 1000 ∧ 0 ≤ off ∧ off ≤ 1000) (hp : a < 0) (hq : -2 < a) :
    Calls Tryd.prog 5 #[.int .i64 a, .int .i64 b, .int .i64 x, .int .i64 off] w fun e w' => e = .returned (.bool true) ∧ Below w.heap.size w w' := by
  obtain ⟨b1, b2, b3, b4, b5, b6, b7, b8⟩ := h
  have HT := Lib.hid ht
  clear ht
  have hxa : (a * x).natAbs ≤ 1000 * 1000 := by rw [Int.natAbs_mul]; exact Nat.mul_le_mul (by omega) (by omega)
  have hy1 : -1000000 ≤ a * x := by omega
  have hy2 : a * x ≤ 1000000 := by omega
  have hyw : IntKind.i64.wrap (a * x) = a * x := by rw [IntKind.wrap_i64]; omega
  have hyw2 : wrap64 (a * x) = a * x := by unfold wrap64; omega
  have HM1 := Lib.hid (mt_up a b x b5)
  have HC1 := Lib.hid (match_any a b (a * x + b) w (by omega) (by omega) (by omega))
  have hp1 : ¬ 0 < a := by omega
  have hmx : max a (-a) = -a := by omega
  have HM2 := Lib.hid (mt_high a b off hp b7)
  have HC2 := Lib.hid (match_any a b (b + 1 + off) w (by omega) (by omega) (by omega))
  have hq2 : -a < 2 := by omega
  clear hxa
  go_enter Tryd.func5, Tryd.ntmps5
  go_wp2_with (first | (go_at_call 11; (with_reducible refine HC1.out.mono ?_); rintro e w' ⟨rfl, rfl⟩; rw [HM1.out]) | (go_at_call 11; (with_reducible refine HC2.out.mono ?_); rintro e w' ⟨rfl, rfl⟩; rw [HM2.out]) | (go_at_call 7; (with_reducible refine (awake5_any _ HT.out).mono ?_); rintro e w9 ⟨rfl, hb9⟩))
  go_ret
  exact ⟨rfl, hb9⟩
set_option maxRecDepth 100000 in
set_option maxHeartbeats 3200000 in
theorem bm_up_y (w : World) (a b x off : Int) (ht : Tab w) (h : -1000 ≤ a ∧ a ≤ 1000 ∧ -1000 ≤ b ∧ b ≤ 1000 ∧ 0 ≤ x ∧ x ≤ 1000 ∧ 0 ≤ off ∧ off ≤ 1000) (hp : 0 < a) (hq : 2 ≤ a) (hm : off % a = 0) :
    Calls Tryd.prog 5 #[.int .i64 a, .int .i64 b, .int .i64 x, .int .i64 off] w fun e w' => e = .returned (.bool true) ∧ Below w.heap.size w w' := by
  obtain ⟨b1, b2, b3, b4, b5, b6, b7, b8⟩ := h
  have HT := Lib.hid ht
  clear ht
  obtain ⟨y, hy⟩ : ∃ y, y = a * x := ⟨_, rfl⟩
  have hxa : (a * x).natAbs ≤ 1000 * 1000 := by rw [Int.natAbs_mul]; exact Nat.mul_le_mul (by omega) (by omega)
  rw [← hy] at hxa
  have hy1 : -1000000 ≤ y := by omega
  have hy2 : y ≤ 1000000 := by omega
  have hyw2 : wrap64 (a * x) = y := by rw [← hy]; unfold wrap64; omega
  have hyw : IntKind.i64.wrap (a * x) = y := by rw [← hy, IntKind.wrap_i64]; omega
  have hz1 : IntKind.i64.wrap (y + b) = y + b := by rw [IntKind.wrap_i64]; omega
  have hz2 : IntKind.i64.wrap (y + b + off) = y + b + off := by rw [IntKind.wrap_i64]; omega
  have HM1 := mt_up a b x b5
  rw [← hy] at HM1
  replace HM1 := Lib.hid HM1
  have HC1 := Lib.hid (match_any a b (y + b) w (by omega) (by omega) (by omega))
  have HTD := Lib.hid (HT.out.below (below_dr w))
  have hp1 : ¬ a < 0 := by omega
  have hmx : max a (-a) = a := by omega
  have HM2 := Lib.hid (mt_low a b off hp b7)
  have HC2 := Lib.hid (match_any a b (b - 1 - off) w (by omega) (by omega) (by omega))
  have HC3 := Lib.hid (show Calls Tryd.prog 11 #[.int .i64 a, .int .i64 b, .int .i64 (y + b + off)] w.drew fun e w' => e = .returned (.bool true) ∧ w.drew = w' from by
    have h := match_any a b (y + b + off) w.drew (by omega) (by omega) (by omega)
    rw [hy, mt_off_up a b x off hq b5 b7, decide_eq_true hm, ← hy] at h
    exact h)
  have hne1 : ¬ a = 0 := by omega
  have hne2 : (a == 0) = false := by simpa using hne1
  have hq2 : ¬ a < 2 := by omega
  have hm3 : (off.tmod a == 0) = true := by rw [Int.tmod_eq_emod_of_nonneg b7]; simpa using hm
  clear hm hq
  clear hxa hy
  go_enter Tryd.func5, Tryd.ntmps5
  go_upto_region 8 with (first | (go_at_call 11; (with_reducible refine HC1.out.mono ?_); rintro e w' ⟨rfl, rfl⟩; rw [HM1.out]) | (go_at_call 11; (with_reducible refine HC2.out.mono ?_); rintro e w' ⟨rfl, rfl⟩; rw [HM2.out]))
  refine wp_region_still_tail 32 (by kernel_rfl) (by kernel_rfl) ?_
  simp only [List.take_succ_cons, List.take_zero, List.drop_succ_cons, List.drop_zero]
  generalize hG : (Act.mk _ _) = G
  iterate 9 (refine wpStill_step (fun K hK => ?_); simp only [← hG]; clear hG; go_simp; (try rw [if_neg (by decide)]); generalize hG : (Act.mk _ _) = G; refine hK G ?_; clear hK K)
  refine wpStill_step (fun K hK => ?_)
  simp only [← hG]
  clear hG
  go_simp
  refine ⟨_, HC3.out.mono fun _ _ ⟨h1, h2⟩ => ⟨h1, h2.symm⟩, ?_⟩
  generalize hG : (Act.mk _ _) = G
  refine hK G ?_
  clear hK K
  iterate 22 (refine wpStill_step (fun K hK => ?_); simp only [← hG]; clear hG; go_simp; (try rw [if_neg (by decide)]); generalize hG : (Act.mk _ _) = G; refine hK G ?_; clear hK K)
  refine wpStill_nil ?_
  subst hG
  go_wp2_with (go_at_call 7; (with_reducible refine (awake5_any _ HTD.out).mono ?_); rintro e w9 ⟨rfl, hb9⟩)
  go_ret
  first | exact ⟨rfl, (below_dr w).trans (hb9.mono (Nat.le_refl _))⟩ | exact ⟨by simp; omega, (below_dr w).trans (hb9.mono (Nat.le_refl _))⟩
set_option maxRecDepth 100000 in
set_option maxHeartbeats 3200000 in
theorem bm_up_n (w : World) (a b x off : Int) (ht : Tab w) (h : -1000 ≤ a ∧ a ≤ 1000 ∧ -1000 ≤ b ∧ b ≤ 1000 ∧ 0 ≤ x ∧ x ≤ 1000 ∧ 0 ≤ off ∧ off ≤ 1000) (hp : 0 < a) (hq : 2 ≤ a) (hm : ¬ off % a = 0) :
    Calls Tryd.prog 5 #[.int .i64 a, .int .i64 b, .int .i64 x, .int .i64 off] w fun e w' => e = .returned (.bool true) ∧ Below w.heap.size w w' := by
  obtain ⟨b1, b2, b3, b4, b5, b6, b7, b8⟩ := h
  have HT := Lib.hid ht
  clear ht
  obtain ⟨y, hy⟩ : ∃ y, y = a * x := ⟨_, rfl⟩
  have hxa : (a * x).natAbs ≤ 1000 * 1000 := by rw [Int.natAbs_mul]; exact Nat.mul_le_mul (by omega) (by omega)
  rw [← hy] at hxa
  have hy1 : -1000000 ≤ y := by omega
  have hy2 : y ≤ 1000000 := by omega
  have hyw2 : wrap64 (a * x) = y := by rw [← hy]; unfold wrap64; omega
  have hyw : IntKind.i64.wrap (a * x) = y := by rw [← hy, IntKind.wrap_i64]; omega
  have hz1 : IntKind.i64.wrap (y + b) = y + b := by rw [IntKind.wrap_i64]; omega
  have hz2 : IntKind.i64.wrap (y + b + off) = y + b + off := by rw [IntKind.wrap_i64]; omega
  have HM1 := mt_up a b x b5
  rw [← hy] at HM1
  replace HM1 := Lib.hid HM1
  have HC1 := Lib.hid (match_any a b (y + b) w (by omega) (by omega) (by omega))
  have HTD := Lib.hid (HT.out.below (below_dr w))
  have hp1 : ¬ a < 0 := by omega
  have hmx : max a (-a) = a := by omega
  have HM2 := Lib.hid (mt_low a b off hp b7)
  have HC2 := Lib.hid (match_any a b (b - 1 - off) w (by omega) (by omega) (by omega))
  have HC3 := Lib.hid (show Calls Tryd.prog 11 #[.int .i64 a, .int .i64 b, .int .i64 (y + b + off)] w.drew fun e w' => e = .returned (.bool false) ∧ w.drew = w' from by
    have h := match_any a b (y + b + off) w.drew (by omega) (by omega) (by omega)
    rw [hy, mt_off_up a b x off hq b5 b7, decide_eq_false hm, ← hy] at h
    exact h)
  have hne1 : ¬ a = 0 := by omega
  have hne2 : (a == 0) = false := by simpa using hne1
  have hq2 : ¬ a < 2 := by omega
  have hm3 : (off.tmod a == 0) = false := by rw [Int.tmod_eq_emod_of_nonneg b7]; simpa using hm
  clear hm hq
  clear hxa hy
  go_enter Tryd.func5, Tryd.ntmps5
  go_upto_region 8 with (first | (go_at_call 11; (with_reducible refine HC1.out.mono ?_); rintro e w' ⟨rfl, rfl⟩; rw [HM1.out]) | (go_at_call 11; (with_reducible refine HC2.out.mono ?_); rintro e w' ⟨rfl, rfl⟩; rw [HM2.out]))
  refine wp_region_still_tail 32 (by kernel_rfl) (by kernel_rfl) ?_
  simp only [List.take_succ_cons, List.take_zero, List.drop_succ_cons, List.drop_zero]
  generalize hG : (Act.mk _ _) = G
  iterate 9 (refine wpStill_step (fun K hK => ?_); simp only [← hG]; clear hG; go_simp; (try rw [if_neg (by decide)]); generalize hG : (Act.mk _ _) = G; refine hK G ?_; clear hK K)
  refine wpStill_step (fun K hK => ?_)
  simp only [← hG]
  clear hG
  go_simp
  refine ⟨_, HC3.out.mono fun _ _ ⟨h1, h2⟩ => ⟨h1, h2.symm⟩, ?_⟩
  generalize hG : (Act.mk _ _) = G
  refine hK G ?_
  clear hK K
  iterate 22 (refine wpStill_step (fun K hK => ?_); simp only [← hG]; clear hG; go_simp; (try rw [if_neg (by decide)]); generalize hG : (Act.mk _ _) = G; refine hK G ?_; clear hK K)
  refine wpStill_nil ?_
  subst hG
  go_wp2_with (go_at_call 7; (with_reducible refine (awake5_any _ HTD.out).mono ?_); rintro e w9 ⟨rfl, hb9⟩)
  go_ret
  first | exact ⟨rfl, (below_dr w).trans (hb9.mono (Nat.le_refl _))⟩ | exact ⟨by simp; omega, (below_dr w).trans (hb9.mono (Nat.le_refl _))⟩
set_option maxRecDepth 100000 in
set_option maxHeartbeats 3200000 in
theorem bm_dn_yy (w : World) (a b x off : Int) (ht : Tab w) (h : -1000 ≤ a ∧ a ≤ 1000 ∧ -1000 ≤ b ∧ b ≤ 1000 ∧ 0 ≤ x ∧ x ≤ 1000 ∧ 0 ≤ off ∧ off ≤ 1000) (hp : a < 0) (hq : a ≤ -2) (hm : off % (-a) = 0) (hl : a * x + off ≤ 0) :
    Calls Tryd.prog 5 #[.int .i64 a, .int .i64 b, .int .i64 x, .int .i64 off] w fun e w' => e = .returned (.bool true) ∧ Below w.heap.size w w' := by
  obtain ⟨b1, b2, b3, b4, b5, b6, b7, b8⟩ := h
  have HT := Lib.hid ht
  clear ht
  obtain ⟨y, hy⟩ : ∃ y, y = a * x := ⟨_, rfl⟩
  have hxa : (a * x).natAbs ≤ 1000 * 1000 := by rw [Int.natAbs_mul]; exact Nat.mul_le_mul (by omega) (by omega)
  rw [← hy] at hxa
  have hy1 : -1000000 ≤ y := by omega
  have hy2 : y ≤ 1000000 := by omega
  have hyw2 : wrap64 (a * x) = y := by rw [← hy]; unfold wrap64; omega
  have hyw : IntKind.i64.wrap (a * x) = y := by rw [← hy, IntKind.wrap_i64]; omega
  have hz1 : IntKind.i64.wrap (y + b) = y + b := by rw [IntKind.wrap_i64]; omega
  have hz2 : IntKind.i64.wrap (y + b + off) = y + b + off := by rw [IntKind.wrap_i64]; omega
  have HM1 := mt_up a b x b5
  rw [← hy] at HM1
  replace HM1 := Lib.hid HM1
  have HC1 := Lib.hid (match_any a b (y + b) w (by omega) (by omega) (by omega))
  have HTD := Lib.hid (HT.out.below (below_dr w))
  have hp1 : ¬ 0 < a := by omega
  have hmx : max a (-a) = -a := by omega
  have HM2 := Lib.hid (mt_high a b off hp b7)
  have HC2 := Lib.hid (match_any a b (b + 1 + off) w (by omega) (by omega) (by omega))
  rw [← hy] at hl
  have HC3 := Lib.hid (show Calls Tryd.prog 11 #[.int .i64 a, .int .i64 b, .int .i64 (y + b + off)] w.drew fun e w' => e = .returned (.bool true) ∧ w.drew = w' from by
    have h := match_any a b (y + b + off) w.drew (by omega) (by omega) (by omega)
    rw [hy, mt_off_dn a b x off hq b5 b7, decide_eq_true hm, decide_eq_true (show a * x + off ≤ 0 by omega), Bool.true_and, ← hy] at h
    exact h)
  have hne1 : ¬ -a = 0 := by omega
  have hne2 : (-a == 0) = false := by simpa using hne1
  have hq2 : ¬ -a < 2 := by omega
  have hnw : IntKind.i64.wrap (-a) = -a := by rw [IntKind.wrap_i64]; omega
  have hz3 : IntKind.i64.wrap (y + off) = y + off := by rw [IntKind.wrap_i64]; omega
  have hm3 : (off.tmod a == 0) = true := by rw [← Int.tmod_neg, Int.tmod_eq_emod_of_nonneg b7]; simpa using hm
  clear hm hq
  clear hxa hy
  go_enter Tryd.func5, Tryd.ntmps5
  go_upto_region 8 with (first | (go_at_call 11; (with_reducible refine HC1.out.mono ?_); rintro e w' ⟨rfl, rfl⟩; rw [HM1.out]) | (go_at_call 11; (with_reducible refine HC2.out.mono ?_); rintro e w' ⟨rfl, rfl⟩; rw [HM2.out]))
  refine wp_region_still_tail 32 (by kernel_rfl) (by kernel_rfl) ?_
  simp only [List.take_succ_cons, List.take_zero, List.drop_succ_cons, List.drop_zero]
  generalize hG : (Act.mk _ _) = G
  iterate 9 (refine wpStill_step (fun K hK => ?_); simp only [← hG]; clear hG; go_simp; (try rw [if_neg (by decide)]); generalize hG : (Act.mk _ _) = G; refine hK G ?_; clear hK K)
  refine wpStill_step (fun K hK => ?_)
  simp only [← hG]
  clear hG
  go_simp
  refine ⟨_, HC3.out.mono fun _ _ ⟨h1, h2⟩ => ⟨h1, h2.symm⟩, ?_⟩
  generalize hG : (Act.mk _ _) = G
  refine hK G ?_
  clear hK K
  iterate 22 (refine wpStill_step (fun K hK => ?_); simp only [← hG]; clear hG; go_simp; (try rw [if_neg (by decide)]); generalize hG : (Act.mk _ _) = G; refine hK G ?_; clear hK K)
  refine wpStill_nil ?_
  subst hG
  go_wp2_with (go_at_call 7; (with_reducible refine (awake5_any _ HTD.out).mono ?_); rintro e w9 ⟨rfl, hb9⟩)
  go_ret
  first | exact ⟨rfl, (below_dr w).trans (hb9.mono (Nat.le_refl _))⟩ | exact ⟨by simp; omega, (below_dr w).trans (hb9.mono (Nat.le_refl _))⟩
set_option maxRecDepth 100000 in
set_option maxHeartbeats 3200000 in
theorem bm_dn_yn (w : World) (a b x off : Int) (ht : Tab w) (h : -1000 ≤ a ∧ a ≤ 1000 ∧ -1000 ≤ b ∧ b ≤ 1000 ∧ 0 ≤ x ∧ x ≤ 1000 ∧ 0 ≤ off ∧ off ≤ 1000) (hp : a < 0) (hq : a ≤ -2) (hm : off % (-a) = 0) (hl : ¬ a * x + off ≤ 0) :
    Calls Tryd.prog 5 #[.int .i64 a, .int .i64 b, .int .i64 x, .int .i64 off] w fun e w' => e = .returned (.bool true) ∧ Below w.heap.size w w' := by
  obtain ⟨b1, b2, b3, b4, b5, b6, b7, b8⟩ := h
  have HT := Lib.hid ht
  clear ht
  obtain ⟨y, hy⟩ : ∃ y, y = a * x := ⟨_, rfl⟩
  have hxa : (a * x).natAbs ≤ 1000 * 1000 := by rw [Int.natAbs_mul]; exact Nat.mul_le_mul (by omega) (by omega)
  rw [← hy] at hxa
  have hy1 : -1000000 ≤ y := by omega
  have hy2 : y ≤ 1000000 := by omega
  have hyw2 : wrap64 (a * x) = y := by rw [← hy]; unfold wrap64; omega
  have hyw : IntKind.i64.wrap (a * x) = y := by rw [← hy, IntKind.wrap_i64]; omega
  have hz1 : IntKind.i64.wrap (y + b) = y + b := by rw [IntKind.wrap_i64]; omega
  have hz2 : IntKind.i64.wrap (y + b + off) = y + b + off := by rw [IntKind.wrap_i64]; omega
  have HM1 := mt_up a b x b5
  rw [← hy] at HM1
  replace HM1 := Lib.hid HM1
  have HC1 := Lib.hid (match_any a b (y + b) w (by omega) (by omega) (by omega))
  have HTD := Lib.hid (HT.out.below (below_dr w))
  have hp1 : ¬ 0 < a := by omega
  have hmx : max a (-a) = -a := by omega
  have HM2 := Lib.hid (mt_high a b off hp b7)
  have HC2 := Lib.hid (match_any a b (b + 1 + off) w (by omega) (by omega) (by omega))
  rw [← hy] at hl
  have HC3 := Lib.hid (show Calls Tryd.prog 11 #[.int .i64 a, .int .i64 b, .int .i64 (y + b + off)] w.drew fun e w' => e = .returned (.bool false) ∧ w.drew = w' from by
    have h := match_any a b (y + b + off) w.drew (by omega) (by omega) (by omega)
    rw [hy, mt_off_dn a b x off hq b5 b7, decide_eq_true hm, decide_eq_false (show ¬ a * x + off ≤ 0 by omega), Bool.true_and, ← hy] at h
    exact h)
  have hne1 : ¬ -a = 0 := by omega
  have hne2 : (-a == 0) = false := by simpa using hne1
  have hq2 : ¬ -a < 2 := by omega
  have hnw : IntKind.i64.wrap (-a) = -a := by rw [IntKind.wrap_i64]; omega
  have hz3 : IntKind.i64.wrap (y + off) = y + off := by rw [IntKind.wrap_i64]; omega
  have hm3 : (off.tmod a == 0) = true := by rw [← Int.tmod_neg, Int.tmod_eq_emod_of_nonneg b7]; simpa using hm
  clear hm hq
  clear hxa hy
  go_enter Tryd.func5, Tryd.ntmps5
  go_upto_region 8 with (first | (go_at_call 11; (with_reducible refine HC1.out.mono ?_); rintro e w' ⟨rfl, rfl⟩; rw [HM1.out]) | (go_at_call 11; (with_reducible refine HC2.out.mono ?_); rintro e w' ⟨rfl, rfl⟩; rw [HM2.out]))
  refine wp_region_still_tail 32 (by kernel_rfl) (by kernel_rfl) ?_
  simp only [List.take_succ_cons, List.take_zero, List.drop_succ_cons, List.drop_zero]
  generalize hG : (Act.mk _ _) = G
  iterate 9 (refine wpStill_step (fun K hK => ?_); simp only [← hG]; clear hG; go_simp; (try rw [if_neg (by decide)]); generalize hG : (Act.mk _ _) = G; refine hK G ?_; clear hK K)
  refine wpStill_step (fun K hK => ?_)
  simp only [← hG]
  clear hG
  go_simp
  refine ⟨_, HC3.out.mono fun _ _ ⟨h1, h2⟩ => ⟨h1, h2.symm⟩, ?_⟩
  generalize hG : (Act.mk _ _) = G
  refine hK G ?_
  clear hK K
  iterate 22 (refine wpStill_step (fun K hK => ?_); simp only [← hG]; clear hG; go_simp; (try rw [if_neg (by decide)]); generalize hG : (Act.mk _ _) = G; refine hK G ?_; clear hK K)
  refine wpStill_nil ?_
  subst hG
  go_wp2_with (go_at_call 7; (with_reducible refine (awake5_any _ HTD.out).mono ?_); rintro e w9 ⟨rfl, hb9⟩)
  go_ret
  first | exact ⟨rfl, (below_dr w).trans (hb9.mono (Nat.le_refl _))⟩ | exact ⟨by simp; omega, (below_dr w).trans (hb9.mono (Nat.le_refl _))⟩
set_option maxRecDepth 100000 in
set_option maxHeartbeats 3200000 in
theorem bm_dn_n (w : World) (a b x off : Int) (ht : Tab w) (h : -1000 ≤ a ∧ a ≤ 1000 ∧ -1000 ≤ b ∧ b ≤ 1000 ∧ 0 ≤ x ∧ x ≤ 1000 ∧ 0 ≤ off ∧ off ≤ 1000) (hp : a < 0) (hq : a ≤ -2) (hm : ¬ off % (-a) = 0) :
    Calls Tryd.prog 5 #[.int .i64 a, .int .i64 b, .int .i64 x, .int .i64 off] w fun e w' => e = .returned (.bool true) ∧ Below w.heap.size w w' := by
  obtain ⟨b1, b2, b3, b4, b5, b6, b7, b8⟩ := h
  have HT := Lib.hid ht
  clear ht
  obtain ⟨y, hy⟩ : ∃ y, y = a * x := ⟨_, rfl⟩
  have hxa : (a * x).natAbs ≤ 1000 * 1000 := by rw [Int.natAbs_mul]; exact Nat.mul_le_mul (by omega) (by omega)
  rw [← hy] at hxa
  have hy1 : -1000000 ≤ y := by omega
  have hy2 : y ≤ 1000000 := by omega
  have hyw2 : wrap64 (a * x) = y := by rw [← hy]; unfold wrap64; omega
  have hyw : IntKind.i64.wrap (a * x) = y := by rw [← hy, IntKind.wrap_i64]; omega
  have hz1 : IntKind.i64.wrap (y + b) = y + b := by rw [IntKind.wrap_i64]; omega
  have hz2 : IntKind.i64.wrap (y + b + off) = y + b + off := by rw [IntKind.wrap_i64]; omega
  have HM1 := mt_up a b x b5
  rw [← hy] at HM1
  replace HM1 := Lib.hid HM1
  have HC1 := Lib.hid (match_any a b (y + b) w (by omega) (by omega) (by omega))
  have HTD := Lib.hid (HT.out.below (below_dr w))
  have hp1 : ¬ 0 < a := by omega
  have hmx : max a (-a) = -a := by omega
  have HM2 := Lib.hid (mt_high a b off hp b7)
  have HC2 := Lib.hid (match_any a b (b + 1 + off) w (by omega) (by omega) (by omega))
  have HC3 := Lib.hid (show Calls Tryd.prog 11 #[.int .i64 a, .int .i64 b, .int .i64 (y + b + off)] w.drew fun e w' => e = .returned (.bool false) ∧ w.drew = w' from by
    have h := match_any a b (y + b + off) w.drew (by omega) (by omega) (by omega)
    rw [hy, mt_off_dn a b x off hq b5 b7, decide_eq_false hm, Bool.false_and, ← hy] at h
    exact h)
  have hne1 : ¬ -a = 0 := by omega
  have hne2 : (-a == 0) = false := by simpa using hne1
  have hq2 : ¬ -a < 2 := by omega
  have hnw : IntKind.i64.wrap (-a) = -a := by rw [IntKind.wrap_i64]; omega
  have hz3 : IntKind.i64.wrap (y + off) = y + off := by rw [IntKind.wrap_i64]; omega
  have hm3 : (off.tmod a == 0) = false := by rw [← Int.tmod_neg, Int.tmod_eq_emod_of_nonneg b7]; simpa using hm
  clear hm hq
  clear hxa hy
  go_enter Tryd.func5, Tryd.ntmps5
  go_upto_region 8 with (first | (go_at_call 11; (with_reducible refine HC1.out.mono ?_); rintro e w' ⟨rfl, rfl⟩; rw [HM1.out]) | (go_at_call 11; (with_reducible refine HC2.out.mono ?_); rintro e w' ⟨rfl, rfl⟩; rw [HM2.out]))
  refine wp_region_still_tail 32 (by kernel_rfl) (by kernel_rfl) ?_
  simp only [List.take_succ_cons, List.take_zero, List.drop_succ_cons, List.drop_zero]
  generalize hG : (Act.mk _ _) = G
  iterate 9 (refine wpStill_step (fun K hK => ?_); simp only [← hG]; clear hG; go_simp; (try rw [if_neg (by decide)]); generalize hG : (Act.mk _ _) = G; refine hK G ?_; clear hK K)
  refine wpStill_step (fun K hK => ?_)
  simp only [← hG]
  clear hG
  go_simp
  refine ⟨_, HC3.out.mono fun _ _ ⟨h1, h2⟩ => ⟨h1, h2.symm⟩, ?_⟩
  generalize hG : (Act.mk _ _) = G
  refine hK G ?_
  clear hK K
  iterate 22 (refine wpStill_step (fun K hK => ?_); simp only [← hG]; clear hG; go_simp; (try rw [if_neg (by decide)]); generalize hG : (Act.mk _ _) = G; refine hK G ?_; clear hK K)
  refine wpStill_nil ?_
  subst hG
  go_wp2_with (go_at_call 7; (with_reducible refine (awake5_any _ HTD.out).mono ?_); rintro e w9 ⟨rfl, hb9⟩)
  go_ret
  first | exact ⟨rfl, (below_dr w).trans (hb9.mono (Nat.le_refl _))⟩ | exact ⟨by simp; omega, (below_dr w).trans (hb9.mono (Nat.le_refl _))⟩
set_option maxRecDepth 100000 in
set_option maxHeartbeats 3200000 in
theorem bm_z (w : World) (b x off : Int) (ht : Tab w) (h : -1000 ≤ b ∧ b ≤ 1000 ∧ 0 ≤ x ∧ x ≤ 1000 ∧ 0 ≤ off ∧ off ≤ 1000) :
    Calls Tryd.prog 5 #[.int .i64 0, .int .i64 b, .int .i64 x, .int .i64 off] w fun e w' => e = .returned (.bool true) ∧ Below w.heap.size w w' := by
  obtain ⟨b3, b4, b5, b6, b7, b8⟩ := h
  have HT := Lib.hid ht
  clear ht
  have hb : wrap64 b = b := by unfold wrap64; omega
  have hb2 : IntKind.i64.wrap b = b := by rw [IntKind.wrap_i64]; omega
  have HC1 := Lib.hid (show Calls Tryd.prog 11 #[.int .i64 0, .int .i64 b, .int .i64 b] w fun e w' => e = .returned (.bool true) ∧ w = w' from by
    have h := match_any 0 b b w (by omega) (by omega) (by omega)
    rw [show mtB 0 b b = true by unfold mtB; rw [if_pos rfl]] at h
    exact h)
  go_enter Tryd.func5, Tryd.ntmps5
  go_wp2_with (first | (go_at_call 11; (with_reducible refine HC1.out.mono ?_); rintro e w' ⟨rfl, rfl⟩) | (go_at_call 7; (with_reducible refine (awake5_any _ HT.out).mono ?_); rintro e w9 ⟨rfl, hb9⟩))
  go_ret
  exact ⟨rfl, hb9⟩
theorem AnbMatch_any (w : World) (ht : Tab w) (a : Int) (_wa : (Lit.int .i64 a).wf = true) (b : Int) (_wb : (Lit.int .i64 b).wf = true) (x : Int) (_wx : (Lit.int .i64 x).wf = true) (off : Int) (_wo : (Lit.int .i64 off).wf = true) :
    Calls Tryd.prog 5 #[.int .i64 a, .int .i64 b, .int .i64 x, .int .i64 off] w fun e w' => e = .returned (.bool true) ∧ Below w.heap.size w w' := by
  by_cases h : a < -1000 ∨ 1000 < a ∨ b < -1000 ∨ 1000 < b ∨ x < 0 ∨ 1000 < x ∨ off < 0 ∨ 1000 < off
  · exact bm_out w a b x off ht h
  have hh : -1000 ≤ a ∧ a ≤ 1000 ∧ -1000 ≤ b ∧ b ≤ 1000 ∧ 0 ≤ x ∧ x ≤ 1000 ∧ 0 ≤ off ∧ off ≤ 1000 := by omega
  clear h
  by_cases hz : a = 0
  · subst hz
    exact bm_z w b x off ht hh.2.2
  by_cases hp : 0 < a
  · by_cases h2 : a < 2
    · exact bm_up1 w a b x off ht hh hp h2
    by_cases hm : off % a = 0
    · exact bm_up_y w a b x off ht hh hp (by omega) hm
    · exact bm_up_n w a b x off ht hh hp (by omega) hm
  have hn : a < 0 := by omega
  by_cases h2 : -2 < a
  · exact bm_dn1 w a b x off ht hh hn h2
  by_cases hm : off % (-a) = 0
  · by_cases hl : a * x + off ≤ 0
    · exact bm_dn_yy w a b x off ht hh hn (by omega) hm hl
    · exact bm_dn_yn w a b x off ht hh hn (by omega) hm hl
  · exact bm_dn_n w a b x off ht hh hn (by omega) hm
end Go.Proofs.YtlajkfnlkkgneaaDoor
