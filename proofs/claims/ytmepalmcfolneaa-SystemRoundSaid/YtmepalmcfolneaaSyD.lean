
import Derived.Test.YtmepalmcfolneaaSyC
namespace Go.Proofs.Ytmepalmcfolneaa
open Go.RowKit
/-- A style that can be read. -/
structure DefR (w : World) (d : DefD) (sv wv rv : Value) : Prop where
  syms : RdTx w sv d.syms
  wts : Rd .i64 w wv d.wts
  rng : RdP w rv d.rng
  ls : d.syms.length ≤ 100000
  lw : d.wts.length ≤ 100000
  lr : d.rng.length ≤ 100000
theorem DefR.below {w w' : World} {d : DefD} {sv wv rv : Value} (h : DefR w d sv wv rv) (hb : Below w.heap.size w w') : DefR w' d sv wv rv :=
  ⟨h.syms.below hb, h.wts.below hb, h.rng.below hb, h.ls, h.lw, h.lr⟩
set_option maxRecDepth 100000 in
set_option maxHeartbeats 800000 in
theorem uses_any (w : World) (d : DefD) (sv wv rv : Value) (n : Int) :
    Calls Try.prog 10 #[defV d sv wv rv, .int .i64 n] w fun e w' => e = .returned (.bool (usesB d n)) ∧ Below w.heap.size w w' := by
  unfold defV
  go_enter Try.func10, Try.ntmps10
  go_wp2
  all_goals go_ret
  all_goals exact ⟨ret_bool (by simp_all [usesB, isB]), below_al _ _⟩
/-- Which system it is: the first of these that fits. -/
theorem sys_cases (s : ByteArray) :
    ((s.toList == [99, 121, 99, 108, 105, 99]) = true) ∨
    ((s.toList == [99, 121, 99, 108, 105, 99]) = false ∧ (s.toList == [115, 121, 109, 98, 111, 108, 105, 99]) = true) ∨
    ((s.toList == [99, 121, 99, 108, 105, 99]) = false ∧ (s.toList == [115, 121, 109, 98, 111, 108, 105, 99]) = false ∧ (s.toList == [102, 105, 120, 101, 100]) = true) ∨
    ((s.toList == [99, 121, 99, 108, 105, 99]) = false ∧ (s.toList == [115, 121, 109, 98, 111, 108, 105, 99]) = false ∧ (s.toList == [102, 105, 120, 101, 100]) = false ∧ (s.toList == [97, 108, 112, 104, 97, 98, 101, 116, 105, 99]) = true) ∨
    ((s.toList == [99, 121, 99, 108, 105, 99]) = false ∧ (s.toList == [115, 121, 109, 98, 111, 108, 105, 99]) = false ∧ (s.toList == [102, 105, 120, 101, 100]) = false ∧ (s.toList == [97, 108, 112, 104, 97, 98, 101, 116, 105, 99]) = false ∧ (s.toList == [110, 117, 109, 101, 114, 105, 99]) = true) ∨
    ((s.toList == [99, 121, 99, 108, 105, 99]) = false ∧ (s.toList == [115, 121, 109, 98, 111, 108, 105, 99]) = false ∧ (s.toList == [102, 105, 120, 101, 100]) = false ∧ (s.toList == [97, 108, 112, 104, 97, 98, 101, 116, 105, 99]) = false ∧ (s.toList == [110, 117, 109, 101, 114, 105, 99]) = false ∧ (s.toList == [97, 100, 100, 105, 116, 105, 118, 101]) = true) ∨
    ((s.toList == [99, 121, 99, 108, 105, 99]) = false ∧ (s.toList == [115, 121, 109, 98, 111, 108, 105, 99]) = false ∧ (s.toList == [102, 105, 120, 101, 100]) = false ∧ (s.toList == [97, 108, 112, 104, 97, 98, 101, 116, 105, 99]) = false ∧ (s.toList == [110, 117, 109, 101, 114, 105, 99]) = false ∧ (s.toList == [97, 100, 100, 105, 116, 105, 118, 101]) = false ∧ (s.toList == [101, 120, 116, 101, 110, 100, 115]) = true) ∨
    ((s.toList == [99, 121, 99, 108, 105, 99]) = false ∧ (s.toList == [115, 121, 109, 98, 111, 108, 105, 99]) = false ∧ (s.toList == [102, 105, 120, 101, 100]) = false ∧ (s.toList == [97, 108, 112, 104, 97, 98, 101, 116, 105, 99]) = false ∧ (s.toList == [110, 117, 109, 101, 114, 105, 99]) = false ∧ (s.toList == [97, 100, 100, 105, 116, 105, 118, 101]) = false ∧ (s.toList == [101, 120, 116, 101, 110, 100, 115]) = false) := by
  grind
/-- No text is two of them. -/
theorem sys_one {s : ByteArray} {a b : List UInt8} (h : (s.toList == a) = true) (hab : a ≠ b) : (s.toList == b) = false := by
  rw [beq_iff_eq] at h
  rw [h]
  simpa using hab
set_option maxRecDepth 100000 in
set_option maxHeartbeats 1600000 in
theorem symbolsMay_any (w : World) (d : DefD) (sv wv rv : Value) (h : DefR w d sv wv rv) :
    Calls Try.prog 15 #[defV d sv wv rv] w fun e w' => e = .returned (.bool (symsB d)) ∧ Below w.heap.size w w' := by
  obtain ⟨hs, hw, hr, ls, lw, lr⟩ := h
  clear hr lr
  obtain ⟨a1, c1, rfl, hs1, hs2⟩ := hs
  have HW := Lib.hid hw
  obtain ⟨a2, c2, rfl, hw1, hw2⟩ := hw
  clear hs1 hs2 hw1 hw2
  unfold defV
  generalize hN : d.syms.length = N at *
  generalize hM : d.wts.length = M at *
  by_cases hbig : 64 < N
  · have HF : Hid (false = symsB d) := by
      show _ = _
      unfold symsB
      rw [if_pos (by omega)]
    have hbI : (64 : Int) < (N : Int) := by omega
    go_enter Try.func15, Try.ntmps15
    go_wp2
    go_ret
    exact ⟨ret_bool HF.out, below_al _ _⟩
  have hbI : ¬ (64 : Int) < (N : Int) := by omega
  rcases sys_cases d.sys with ⟨q0⟩ | ⟨q0, q1⟩ | ⟨q0, q1, q2⟩ | ⟨q0, q1, q2, q3⟩ | ⟨q0, q1, q2, q3, q4⟩ | ⟨q0, q1, q2, q3, q4, q5⟩ | ⟨q0, q1, q2, q3, q4, q5, q6⟩ | ⟨q0, q1, q2, q3, q4, q5, q6⟩
  · have HF : Hid (symsB d = decide (1 ≤ N)) := by
      show _ = _
      unfold symsB isB
      rw [if_neg (by omega)]
      simp [q0, hN]
    have z0 := sys_one q0 (b := [115, 121, 109, 98, 111, 108, 105, 99]) (by decide)
    have z1 := sys_one q0 (b := [102, 105, 120, 101, 100]) (by decide)
    by_cases c1' : 1 ≤ N
    · have cI : (1 : Int) ≤ (N : Int) := by omega
      go_enter Try.func15, Try.ntmps15
      go_wp2_with (go_at_call 26; refine (falling_any _ _ _ (HW.out.below (below_al _ _)) (by omega)).mono ?_; rintro e w1 ⟨rfl, rfl⟩)
      go_ret
      exact ⟨ret_bool (by rw [HF.out, decide_eq_true c1']), below_al _ _⟩
    · have cI : ¬ (1 : Int) ≤ (N : Int) := by omega
      go_enter Try.func15, Try.ntmps15
      go_wp2_with (go_at_call 26; refine (falling_any _ _ _ (HW.out.below (below_al _ _)) (by omega)).mono ?_; rintro e w1 ⟨rfl, rfl⟩)
      go_ret
      exact ⟨ret_bool (by rw [HF.out, decide_eq_false c1']), below_al _ _⟩
  · have HF : Hid (symsB d = decide (1 ≤ N)) := by
      show _ = _
      unfold symsB isB
      rw [if_neg (by omega)]
      simp [q0, q1, hN]
    by_cases c1' : 1 ≤ N
    · have cI : (1 : Int) ≤ (N : Int) := by omega
      go_enter Try.func15, Try.ntmps15
      go_wp2_with (go_at_call 26; refine (falling_any _ _ _ (HW.out.below (below_al _ _)) (by omega)).mono ?_; rintro e w1 ⟨rfl, rfl⟩)
      go_ret
      exact ⟨ret_bool (by rw [HF.out, decide_eq_true c1']), below_al _ _⟩
    · have cI : ¬ (1 : Int) ≤ (N : Int) := by omega
      go_enter Try.func15, Try.ntmps15
      go_wp2_with (go_at_call 26; refine (falling_any _ _ _ (HW.out.below (below_al _ _)) (by omega)).mono ?_; rintro e w1 ⟨rfl, rfl⟩)
      go_ret
      exact ⟨ret_bool (by rw [HF.out, decide_eq_false c1']), below_al _ _⟩
  · have HF : Hid (symsB d = decide (1 ≤ N)) := by
      show _ = _
      unfold symsB isB
      rw [if_neg (by omega)]
      simp [q0, q1, q2, hN]
    by_cases c1' : 1 ≤ N
    · have cI : (1 : Int) ≤ (N : Int) := by omega
      go_enter Try.func15, Try.ntmps15
      go_wp2_with (go_at_call 26; refine (falling_any _ _ _ (HW.out.below (below_al _ _)) (by omega)).mono ?_; rintro e w1 ⟨rfl, rfl⟩)
      go_ret
      exact ⟨ret_bool (by rw [HF.out, decide_eq_true c1']), below_al _ _⟩
    · have cI : ¬ (1 : Int) ≤ (N : Int) := by omega
      go_enter Try.func15, Try.ntmps15
      go_wp2_with (go_at_call 26; refine (falling_any _ _ _ (HW.out.below (below_al _ _)) (by omega)).mono ?_; rintro e w1 ⟨rfl, rfl⟩)
      go_ret
      exact ⟨ret_bool (by rw [HF.out, decide_eq_false c1']), below_al _ _⟩
  · have HF : Hid (symsB d = decide (2 ≤ N)) := by
      show _ = _
      unfold symsB isB
      rw [if_neg (by omega)]
      simp [q0, q1, q2, q3, hN]
    by_cases c1' : 2 ≤ N
    · have cI : (2 : Int) ≤ (N : Int) := by omega
      go_enter Try.func15, Try.ntmps15
      go_wp2_with (go_at_call 26; refine (falling_any _ _ _ (HW.out.below (below_al _ _)) (by omega)).mono ?_; rintro e w1 ⟨rfl, rfl⟩)
      go_ret
      exact ⟨ret_bool (by rw [HF.out, decide_eq_true c1']), below_al _ _⟩
    · have cI : ¬ (2 : Int) ≤ (N : Int) := by omega
      go_enter Try.func15, Try.ntmps15
      go_wp2_with (go_at_call 26; refine (falling_any _ _ _ (HW.out.below (below_al _ _)) (by omega)).mono ?_; rintro e w1 ⟨rfl, rfl⟩)
      go_ret
      exact ⟨ret_bool (by rw [HF.out, decide_eq_false c1']), below_al _ _⟩
  · have HF : Hid (symsB d = decide (2 ≤ N)) := by
      show _ = _
      unfold symsB isB
      rw [if_neg (by omega)]
      simp [q0, q1, q2, q3, q4, hN]
    by_cases c1' : 2 ≤ N
    · have cI : (2 : Int) ≤ (N : Int) := by omega
      go_enter Try.func15, Try.ntmps15
      go_wp2_with (go_at_call 26; refine (falling_any _ _ _ (HW.out.below (below_al _ _)) (by omega)).mono ?_; rintro e w1 ⟨rfl, rfl⟩)
      go_ret
      exact ⟨ret_bool (by rw [HF.out, decide_eq_true c1']), below_al _ _⟩
    · have cI : ¬ (2 : Int) ≤ (N : Int) := by omega
      go_enter Try.func15, Try.ntmps15
      go_wp2_with (go_at_call 26; refine (falling_any _ _ _ (HW.out.below (below_al _ _)) (by omega)).mono ?_; rintro e w1 ⟨rfl, rfl⟩)
      go_ret
      exact ⟨ret_bool (by rw [HF.out, decide_eq_false c1']), below_al _ _⟩
  · have HF : Hid (symsB d = (decide (1 ≤ N) && decide (M = N) && fallB d.wts)) := by
      show _ = _
      unfold symsB isB
      rw [if_neg (by omega)]
      simp [q0, q1, q2, q3, q4, q5, hN, hM]
    by_cases c1' : 1 ≤ N
    · have cI : (1 : Int) ≤ (N : Int) := by omega
      by_cases c2' : M = N
      · have HF2 : Hid (symsB d = fallB d.wts) := by
          show _ = _
          rw [HF.out, decide_eq_true c1', decide_eq_true c2']
          rfl
        have cJ : ((M : Int) == (N : Int)) = true := beq_iff_eq.2 (by omega)
        have cJ2 : (M : Int) = (N : Int) := by omega
        have HM := Lib.hid c2'
        clear HF c2'
        go_enter Try.func15, Try.ntmps15
        go_wp2_with (go_at_call 26; refine (falling_any _ _ _ (HW.out.below (below_al _ _)) (by omega)).mono ?_; rintro e w1 ⟨rfl, rfl⟩)
        go_ret
        exact ⟨ret_bool (by rw [HF2.out]), below_al _ _⟩
      · have cJ : ((M : Int) == (N : Int)) = false := by simpa using (show ¬ (M : Int) = (N : Int) by omega)
        have cJ2 : ¬ (M : Int) = (N : Int) := by omega
        go_enter Try.func15, Try.ntmps15
        go_wp2_with (go_at_call 26; refine (falling_any _ _ _ (HW.out.below (below_al _ _)) (by omega)).mono ?_; rintro e w1 ⟨rfl, rfl⟩)
        go_ret
        exact ⟨ret_bool (by rw [HF.out, decide_eq_true c1', decide_eq_false c2']; rfl), below_al _ _⟩
    · have cI : ¬ (1 : Int) ≤ (N : Int) := by omega
      have cd : decide ((1 : Int) ≤ (N : Int)) = false := decide_eq_false cI
      go_enter Try.func15, Try.ntmps15
      go_wp2_with (go_at_call 26; refine (falling_any _ _ _ (HW.out.below (below_al _ _)) (by omega)).mono ?_; rintro e w1 ⟨rfl, rfl⟩)
      go_ret
      exact ⟨ret_bool (by rw [HF.out, decide_eq_false c1']; rfl), below_al _ _⟩
  · have HF : Hid (symsB d = (decide (N = 0) && decide (M = 0))) := by
      show _ = _
      unfold symsB isB
      rw [if_neg (by omega)]
      simp [q0, q1, q2, q3, q4, q5, q6, hN, hM]
    by_cases c1' : N = 0
    · have cI : ((N : Int) == 0) = true := by simpa using c1'
      have cI2 : (N : Int) = 0 := by omega
      by_cases c2' : M = 0
      · have cJ : ((M : Int) == 0) = true := by simpa using c2'
        have HX := Lib.hid c1'
        have HY := Lib.hid c2'
        have cJ2 : (M : Int) = 0 := by omega
        clear c1' c2'
        go_enter Try.func15, Try.ntmps15
        go_wp2_with (go_at_call 26; refine (falling_any _ _ _ (HW.out.below (below_al _ _)) (by omega)).mono ?_; rintro e w1 ⟨rfl, rfl⟩)
        go_ret
        exact ⟨ret_bool (by rw [HF.out, decide_eq_true HX.out, decide_eq_true HY.out]; rfl), below_al _ _⟩
      · have cJ : ((M : Int) == 0) = false := by simpa using c2'
        have HX := Lib.hid c1'
        have cJ2 : ¬ (M : Int) = 0 := by omega
        clear c1'
        go_enter Try.func15, Try.ntmps15
        go_wp2_with (go_at_call 26; refine (falling_any _ _ _ (HW.out.below (below_al _ _)) (by omega)).mono ?_; rintro e w1 ⟨rfl, rfl⟩)
        go_ret
        exact ⟨ret_bool (by rw [HF.out, decide_eq_true HX.out, decide_eq_false c2']; rfl), below_al _ _⟩
    · have cI : ((N : Int) == 0) = false := by simpa using c1'
      have cI2 : ¬ (N : Int) = 0 := by omega
      go_enter Try.func15, Try.ntmps15
      go_wp2_with (go_at_call 26; refine (falling_any _ _ _ (HW.out.below (below_al _ _)) (by omega)).mono ?_; rintro e w1 ⟨rfl, rfl⟩)
      go_ret
      exact ⟨ret_bool (by rw [HF.out, decide_eq_false c1']; rfl), below_al _ _⟩
  · have HF : Hid (symsB d = false) := by
      show _ = _
      unfold symsB isB
      rw [if_neg (by omega)]
      simp [q0, q1, q2, q3, q4, q5, q6]
    go_enter Try.func15, Try.ntmps15
    go_wp2_with (go_at_call 26; refine (falling_any _ _ _ (HW.out.below (below_al _ _)) (by omega)).mono ?_; rintro e w1 ⟨rfl, rfl⟩)
    go_ret
    exact ⟨ret_bool (by rw [HF.out]), below_al _ _⟩
end Go.Proofs.Ytmepalmcfolneaa
