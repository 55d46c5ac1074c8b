
import Derived.Test.YtjjlnmjapfcmaaaDoorSyA
import Derived.BigQuiet
import Derived.Deep.QuietTactic
import Derived.WalkLawsBesides
namespace Go.Proofs.YtjjlnmjapfcmaaaDoor
open Go.RowKit
theorem held_eq (n : Int) : (wrap64 (wrap32 n) == n) = heldB n := by
  unfold heldB wrap64 wrap32
  rw [Bool.eq_iff_iff]
  simp
  omega
set_option maxRecDepth 100000 in
set_option maxHeartbeats 400000 in
theorem held_any (n : Int) (w : World) : Calls Tryd.prog 69 #[.int .i64 n] w fun e w' => e = .returned (.bool (heldB n)) ∧ w = w' := by
  go_enter Tryd.func69, Tryd.ntmps69
  go_wp2
  go_ret
  exact ⟨ret_bool (held_eq n), rfl⟩
set_option maxRecDepth 100000 in
set_option maxHeartbeats 800000 in
theorem falling_any (xs : List Int) (v : Value) (w : World) (h1 : Rd .i64 w v xs) (hl : xs.length ≤ 140737488355328) :
    Calls Tryd.prog 67 #[v] w fun e w' => e = .returned (.bool (fallB xs)) ∧ w = w' := by
  obtain ⟨a1, c1, rfl, hle1, h1⟩ := h1
  have HC := Lib.hid h1
  clear h1
  go_enter Tryd.func67, Tryd.ntmps67
  go_wp2
  go_loop [3, 4, 7] (fun _ _ i => ∃ k : Nat, k ≤ xs.length ∧ i = .int .i64 k ∧ ∀ j, j < k → okAt xs j = true) (fun _ _ i => xs.length - (intOf i).toNat)
  case atStart => exact ⟨0, Nat.zero_le _, rfl, fun j hj => absurd hj (by omega)⟩
  case round =>
    obtain ⟨k, hk, rfl, hall⟩ := hrel
    have HA := Lib.hid hall
    clear hall
    by_cases hlt : k < xs.length
    · obtain ⟨b, off, rfl, hb, hc⟩ := HC.out (by omega)
      have e1 := hc k hlt
      have e0 : 0 < k → w.cell? ⟨b, off + (k - 1), none⟩ = some (.int .i64 (nth xs (k - 1))) := fun _ => hc (k - 1) (by omega)
      clear hc
      have hi1 : (0:Int) ≤ (k:Int) := by omega
      by_cases hneg : nth xs k < 0
      · have HF := Lib.hid (fall_no hlt (decide_eq_false (fun hh => by omega)))
        have hd : decide (nth xs k < 0) = true := decide_eq_true hneg
        clear e0
        go_wp2
        go_ret
        exact ⟨ret_bool HF.out, rfl⟩
      · by_cases hk0 : 0 < k
        · have e2 := e0 hk0
          clear e0
          have hp : (k : Int) - 1 = ((k - 1 : Nat) : Int) := by omega
          have hkI : (0 : Int) < (k : Int) := by omega
          have hkI1 : (1 : Int) ≤ (k : Int) := by omega
          by_cases hge : nth xs (k - 1) ≤ nth xs k
          · have HF := Lib.hid (fall_no hlt (decide_eq_false (fun hh => by have := hh.2 hk0; omega)))
            go_wp2
            go_ret
            exact ⟨ret_bool HF.out, rfl⟩
          · have HK : Hid (okAt xs k = true) := decide_eq_true ⟨by omega, fun _ => by omega⟩
            go_wp2
            go_round
            case rel => exact ⟨k + 1, by omega, by go_num, fun j hj => by
              by_cases e : j = k
              · rw [e]; exact HK.out
              · exact HA.out j (by omega)⟩
            case measure => simp [intOf]; omega
        · have hkI : ¬ (0 : Int) < (k : Int) := by omega
          have hd0 : decide ((0 : Int) < (k : Int)) = false := decide_eq_false hkI
          have HK : Hid (okAt xs k = true) := decide_eq_true ⟨by omega, fun h => absurd h hk0⟩
          clear e0
          go_wp2
          go_round
          case rel => exact ⟨k + 1, by omega, by go_num, fun j hj => by
            by_cases e : j = k
            · rw [e]; exact HK.out
            · exact HA.out j (by omega)⟩
          case measure => simp [intOf]; omega
    · have HF := Lib.hid (fall_of (l := xs) (fun j hj => HA.out j (by omega)))
      go_wp2
      go_ret
      exact ⟨ret_bool HF.out, rfl⟩
set_option maxRecDepth 100000 in
set_option maxHeartbeats 800000 in
theorem short_any (xs : List ByteArray) (v : Value) (w : World) (h1 : RdTx w v xs) (hl : xs.length ≤ 140737488355328) :
    Calls Tryd.prog 68 #[v] w fun e w' => e = .returned (.bool (shortB xs)) ∧ w = w' := by
  obtain ⟨a1, c1, rfl, hle1, h1⟩ := h1
  have HC := Lib.hid h1
  clear h1
  go_enter Tryd.func68, Tryd.ntmps68
  go_wp2
  go_loop [4, 7] (fun _ i => ∃ k : Nat, k ≤ xs.length ∧ i = .int .i64 k ∧ ∀ j, (hj : j < xs.length) → j < k → (xs[j]).size ≤ 100) (fun _ i => xs.length - (intOf i).toNat)
  case atStart => exact ⟨0, Nat.zero_le _, rfl, fun j _ hj => absurd hj (by omega)⟩
  case round =>
    obtain ⟨k, hk, rfl, hall⟩ := hrel
    have HA := Lib.hid hall
    clear hall
    by_cases hlt : k < xs.length
    · obtain ⟨b, off, rfl, hb, hc⟩ := HC.out (by omega)
      have e1 := hc k hlt
      clear hc
      have hi1 : (0:Int) ≤ (k:Int) := by omega
      by_cases hbig : 100 < (xs[k]).size
      · have HF := Lib.hid (short_no hlt hbig)
        have hbI : (100 : Int) < ((xs[k]).size : Int) := by omega
        go_wp2
        go_ret
        exact ⟨ret_bool HF.out, rfl⟩
      · have hbI : ¬ (100 : Int) < ((xs[k]).size : Int) := by omega
        have HK : Hid ((xs[k]).size ≤ 100) := by
          show _ ≤ _
          omega
        go_wp2
        go_round
        case rel => exact ⟨k + 1, by omega, by go_num, fun j hj hjk => by
          by_cases e : j = k
          · subst e; exact HK.out
          · exact HA.out j hj (by omega)⟩
        case measure => simp [intOf]; omega
    · have HF := Lib.hid (short_of (l := xs) (fun j hj => HA.out j hj (by omega)))
      go_wp2
      go_ret
      exact ⟨ret_bool HF.out, rfl⟩
end Go.Proofs.YtjjlnmjapfcmaaaDoor
namespace Go.Proofs.YtjjlnmjapfcmaaaDoor
open Go.RowKit
theorem below_al (w : World) (o : Obj) : Below w.heap.size w (w.alloc o) := (Below.refl _ _).alloc (Nat.le_refl _) o
theorem pair_eq (p : Int × Int) (a b c : Bool) (h1 : decide (p.1 ≤ p.2) = a) (h2 : heldB p.1 = b) (h3 : heldB p.2 = c) : pairB p = (a && b && c) := by
  unfold pairB
  rw [h1, h2, h3]
set_option maxRecDepth 100000 in
set_option maxHeartbeats 1600000 in
theorem rangeMay_any (xs : List (Int × Int)) (v : Value) (w : World) (h1 : RdP w v xs) (hl : xs.length ≤ 140737488355328) :
    Calls Tryd.prog 45 #[v] w fun e w' => e = .returned (.bool (rangeB xs)) ∧ Below w.heap.size w w' := by
  obtain ⟨a1, c1, rfl, hle1, h1⟩ := h1
  have HC := Lib.hid h1
  clear h1
  go_enter Tryd.func45, Tryd.ntmps45
  go_wp2
  go_loopw [4, 7] (fun _ i wr => ∃ k : Nat, k ≤ xs.length ∧ i = .int .i64 k ∧ Below w.heap.size w wr ∧ ∀ j, (hj : j < xs.length) → j < k → pairB xs[j] = true) (fun _ i _ => xs.length - (intOf i).toNat)
  case atStart => exact ⟨0, Nat.zero_le _, rfl, Below.refl _ _, fun j _ hj => absurd hj (by omega)⟩
  case round =>
    obtain ⟨k, hk, rfl, hbw, hall⟩ := hrel
    have HA := Lib.hid hall
    clear hall
    by_cases hlt : k < xs.length
    · obtain ⟨b, off, rfl, hb, hc⟩ := HC.out (by omega)
      have e1 := (hbw.cell (p := ⟨b, off + k * 2, none⟩) hb).trans (hc k hlt).1
      have e2 := (hbw.cell (p := ⟨b, off + k * 2 + 1, none⟩) hb).trans (hc k hlt).2
      clear hc
      have hi1 : (0:Int) ≤ (k:Int) := by omega
      have hws := hbw.size
      generalize hP : xs[k] = P at *
      obtain ⟨x, y⟩ := P
      simp only at e1 e2
      have HP := Lib.hid hP
      clear hP
      by_cases hxy : y < x
      · have HF := Lib.hid (range_no hlt (by rw [HP.out]; rw [pair_eq (x, y) false _ _ (decide_eq_false (by simp; omega)) rfl rfl]; rfl))
        go_wp2
        go_ret
        exact ⟨ret_bool HF.out, hbw.alloc hws _⟩
      · cases hx : heldB x
        · have HF := Lib.hid (range_no hlt (by rw [HP.out]; rw [pair_eq (x, y) true false _ (decide_eq_true (by simp; omega)) hx rfl]; rfl))
          have HX := Lib.hid hx
          clear hx
          go_wp2_with (go_at_call 69; refine (held_any _ _).mono ?_; rintro e w1 ⟨rfl, rfl⟩; rw [HX.out])
          go_ret
          exact ⟨ret_bool HF.out, hbw.alloc hws _⟩
        · cases hy : heldB y
          · have HF := Lib.hid (range_no hlt (by rw [HP.out]; rw [pair_eq (x, y) true true false (decide_eq_true (by simp; omega)) hx hy]; rfl))
            have HX := Lib.hid hx
            have HY := Lib.hid hy
            clear hx hy
            go_wp2_with (go_at_call 69; refine (held_any _ _).mono ?_; rintro e w1 ⟨rfl, rfl⟩; first | rw [HX.out] | rw [HY.out])
            go_ret
            exact ⟨ret_bool HF.out, hbw.alloc hws _⟩
          · have HK := Lib.hid (pair_eq (x, y) true true true (decide_eq_true (by simp; omega)) hx hy)
            have HX := Lib.hid hx
            have HY := Lib.hid hy
            clear hx hy
            go_wp2_with (go_at_call 69; refine (held_any _ _).mono ?_; rintro e w1 ⟨rfl, rfl⟩; first | rw [HX.out] | rw [HY.out])
            go_roundw
            case rel => exact ⟨k + 1, by omega, by go_num, hbw.alloc hws _, fun j hj hjk => by
              by_cases e : j = k
              · subst e; rw [HP.out]; exact HK.out
              · exact HA.out j hj (by omega)⟩
            case measure => simp [intOf]; omega
    · have HF := Lib.hid (range_of (l := xs) (fun j hj => HA.out j hj (by omega)))
      go_wp2
      go_ret
      exact ⟨ret_bool HF.out, hbw⟩
end Go.Proofs.YtjjlnmjapfcmaaaDoor
namespace Go.Proofs.YtjjlnmjapfcmaaaDoor
open Go.RowKit
/-- A style that can be read. -/
structure DefR (w : World) (d : DefD) (sv wv rv : Value) : Prop where
  syms : RdTx w sv d.syms
  wts : Rd .i64 w wv d.wts
  rng : RdP w rv d.rng
  ls : d.syms.length ≤ 100000
  lw : d.wts.length ≤ 100000
  lr : d.rng.length ≤ 100000
theorem DefR.below {w w' : World} {d : DefD} {sv wv rv : Value} (h : DefR w d sv wv rv) (hb : Below w.heap.size w w') : DefR w' d sv wv rv :=
  ⟨h.syms.below hb, h.wts.below hb, h.rng.below hb, h.ls, h.lw, h.lr⟩
/-- Which system it is: the first of these that fits. -/
theorem sys_cases (s : ByteArray) :
    ((s.toList == [99, 121, 99, 108, 105, 99]) = true) ∨
    ((s.toList == [99, 121, 99, 108, 105, 99]) = false ∧ (s.toList == [115, 121, 109, 98, 111, 108, 105, 99]) = true) ∨
    ((s.toList == [99, 121, 99, 108, 105, 99]) = false ∧ (s.toList == [115, 121, 109, 98, 111, 108, 105, 99]) = false ∧ (s.toList == [102, 105, 120, 101, 100]) = true) ∨
    ((s.toList == [99, 121, 99, 108, 105, 99]) = false ∧ (s.toList == [115, 121, 109, 98, 111, 108, 105, 99]) = false ∧ (s.toList == [102, 105, 120, 101, 100]) = false ∧ (s.toList == [97, 108, 112, 104, 97, 98, 101, 116, 105, 99]) = true) ∨
    ((s.toList == [99, 121, 99, 108, 105, 99]) = false ∧ (s.toList == [115, 121, 109, 98, 111, 108, 105, 99]) = false ∧ (s.toList == [102, 105, 120, 101, 100]) = false ∧ (s.toList == [97, 108, 112, 104, 97, 98, 101, 116, 105, 99]) = false ∧ (s.toList == [110, 117, 109, 101, 114, 105, 99]) = true) ∨
    ((s.toList == [99, 121, 99, 108, 105, 99]) = false ∧ (s.toList == [115, 121, 109, 98, 111, 108, 105, 99]) = false ∧ (s.toList == [102, 105, 120, 101, 100]) = false ∧ (s.toList == [97, 108, 112, 104, 97, 98, 101, 116, 105, 99]) = false ∧ (s.toList == [110, 117, 109, 101, 114, 105, 99]) = false ∧ (s.toList == [97, 100, 100, 105, 116, 105, 118, 101]) = true) ∨
    ((s.toList == [99, 121, 99, 108, 105, 99]) = false ∧ (s.toList == [115, 121, 109, 98, 111, 108, 105, 99]) = false ∧ (s.toList == [102, 105, 120, 101, 100]) = false ∧ (s.toList == [97, 108, 112, 104, 97, 98, 101, 116, 105, 99]) = false ∧ (s.toList == [110, 117, 109, 101, 114, 105, 99]) = false ∧ (s.toList == [97, 100, 100, 105, 116, 105, 118, 101]) = false ∧ (s.toList == [101, 120, 116, 101, 110, 100, 115]) = true) ∨
    ((s.toList == [99, 121, 99, 108, 105, 99]) = false ∧ (s.toList == [115, 121, 109, 98, 111, 108, 105, 99]) = false ∧ (s.toList == [102, 105, 120, 101, 100]) = false ∧ (s.toList == [97, 108, 112, 104, 97, 98, 101, 116, 105, 99]) = false ∧ (s.toList == [110, 117, 109, 101, 114, 105, 99]) = false ∧ (s.toList == [97, 100, 100, 105, 116, 105, 118, 101]) = false ∧ (s.toList == [101, 120, 116, 101, 110, 100, 115]) = false) := by
  grind
/-- No text is two of them. -/
theorem sys_one {s : ByteArray} {a b : List UInt8} (h : (s.toList == a) = true) (hab : a ≠ b) : (s.toList == b) = false := by
  rw [beq_iff_eq] at h
  rw [h]
  simpa using hab
set_option maxRecDepth 100000 in
set_option maxHeartbeats 1600000 in
theorem symbolsMay_any (w : World) (d : DefD) (sv wv rv : Value) (h : DefR w d sv wv rv) :
    Calls Tryd.prog 43 #[defV d sv wv rv] w fun e w' => e = .returned (.bool (symsB d)) ∧ Below w.heap.size w w' := by
  obtain ⟨hs, hw, hr, ls, lw, lr⟩ := h
  clear hr lr
  obtain ⟨a1, c1, rfl, hs1, hs2⟩ := hs
  have HW := Lib.hid hw
  obtain ⟨a2, c2, rfl, hw1, hw2⟩ := hw
  clear hs1 hs2 hw1 hw2
  unfold defV
  generalize hN : d.syms.length = N at *
  generalize hM : d.wts.length = M at *
  by_cases hbig : 64 < N
  · have HF : Hid (false = symsB d) := by
      show _ = _
      unfold symsB
      rw [if_pos (by omega)]
    have hbI : (64 : Int) < (N : Int) := by omega
    go_enter Tryd.func43, Tryd.ntmps43
    go_wp2
    go_ret
    exact ⟨ret_bool HF.out, below_al _ _⟩
  have hbI : ¬ (64 : Int) < (N : Int) := by omega
  rcases sys_cases d.sys with ⟨q0⟩ | ⟨q0, q1⟩ | ⟨q0, q1, q2⟩ | ⟨q0, q1, q2, q3⟩ | ⟨q0, q1, q2, q3, q4⟩ | ⟨q0, q1, q2, q3, q4, q5⟩ | ⟨q0, q1, q2, q3, q4, q5, q6⟩ | ⟨q0, q1, q2, q3, q4, q5, q6⟩
  · have HF : Hid (symsB d = decide (1 ≤ N)) := by
      show _ = _
      unfold symsB isB
      rw [if_neg (by omega)]
      simp [q0, hN]
    have z0 := sys_one q0 (b := [115, 121, 109, 98, 111, 108, 105, 99]) (by decide)
    have z1 := sys_one q0 (b := [102, 105, 120, 101, 100]) (by decide)
    by_cases c1' : 1 ≤ N
    · have cI : (1 : Int) ≤ (N : Int) := by omega
      go_enter Tryd.func43, Tryd.ntmps43
      go_wp2_with (go_at_call 67; refine (falling_any _ _ _ (HW.out.below (below_al _ _)) (by omega)).mono ?_; rintro e w1 ⟨rfl, rfl⟩)
      go_ret
      exact ⟨ret_bool (by rw [HF.out, decide_eq_true c1']), below_al _ _⟩
    · have cI : ¬ (1 : Int) ≤ (N : Int) := by omega
      go_enter Tryd.func43, Tryd.ntmps43
      go_wp2_with (go_at_call 67; refine (falling_any _ _ _ (HW.out.below (below_al _ _)) (by omega)).mono ?_; rintro e w1 ⟨rfl, rfl⟩)
      go_ret
      exact ⟨ret_bool (by rw [HF.out, decide_eq_false c1']), below_al _ _⟩
  · have HF : Hid (symsB d = decide (1 ≤ N)) := by
      show _ = _
      unfold symsB isB
      rw [if_neg (by omega)]
      simp [q0, q1, hN]
    by_cases c1' : 1 ≤ N
    · have cI : (1 : Int) ≤ (N : Int) := by omega
      go_enter Tryd.func43, Tryd.ntmps43
      go_wp2_with (go_at_call 67; refine (falling_any _ _ _ (HW.out.below (below_al _ _)) (by omega)).mono ?_; rintro e w1 ⟨rfl, rfl⟩)
      go_ret
      exact ⟨ret_bool (by rw [HF.out, decide_eq_true c1']), below_al _ _⟩
    · have cI : ¬ (1 : Int) ≤ (N : Int) := by omega
      go_enter Tryd.func43, Tryd.ntmps43
      go_wp2_with (go_at_call 67; refine (falling_any _ _ _ (HW.out.below (below_al _ _)) (by omega)).mono ?_; rintro e w1 ⟨rfl, rfl⟩)
      go_ret
      exact ⟨ret_bool (by rw [HF.out, decide_eq_false c1']), below_al _ _⟩
  · have HF : Hid (symsB d = decide (1 ≤ N)) := by
      show _ = _
      unfold symsB isB
      rw [if_neg (by omega)]
      simp [q0, q1, q2, hN]
    by_cases c1' : 1 ≤ N
    · have cI : (1 : Int) ≤ (N : Int) := by omega
      go_enter Tryd.func43, Tryd.ntmps43
      go_wp2_with (go_at_call 67; refine (falling_any _ _ _ (HW.out.below (below_al _ _)) (by omega)).mono ?_; rintro e w1 ⟨rfl, rfl⟩)
      go_ret
      exact ⟨ret_bool (by rw [HF.out, decide_eq_true c1']), below_al _ _⟩
    · have cI : ¬ (1 : Int) ≤ (N : Int) := by omega
      go_enter Tryd.func43, Tryd.ntmps43
      go_wp2_with (go_at_call 67; refine (falling_any _ _ _ (HW.out.below (below_al _ _)) (by omega)).mono ?_; rintro e w1 ⟨rfl, rfl⟩)
      go_ret
      exact ⟨ret_bool (by rw [HF.out, decide_eq_false c1']), below_al _ _⟩
  · have HF : Hid (symsB d = decide (2 ≤ N)) := by
      show _ = _
      unfold symsB isB
      rw [if_neg (by omega)]
      simp [q0, q1, q2, q3, hN]
    by_cases c1' : 2 ≤ N
    · have cI : (2 : Int) ≤ (N : Int) := by omega
      go_enter Tryd.func43, Tryd.ntmps43
      go_wp2_with (go_at_call 67; refine (falling_any _ _ _ (HW.out.below (below_al _ _)) (by omega)).mono ?_; rintro e w1 ⟨rfl, rfl⟩)
      go_ret
      exact ⟨ret_bool (by rw [HF.out, decide_eq_true c1']), below_al _ _⟩
    · have cI : ¬ (2 : Int) ≤ (N : Int) := by omega
      go_enter Tryd.func43, Tryd.ntmps43
      go_wp2_with (go_at_call 67; refine (falling_any _ _ _ (HW.out.below (below_al _ _)) (by omega)).mono ?_; rintro e w1 ⟨rfl, rfl⟩)
      go_ret
      exact ⟨ret_bool (by rw [HF.out, decide_eq_false c1']), below_al _ _⟩
  · have HF : Hid (symsB d = decide (2 ≤ N)) := by
      show _ = _
      unfold symsB isB
      rw [if_neg (by omega)]
      simp [q0, q1, q2, q3, q4, hN]
    by_cases c1' : 2 ≤ N
    · have cI : (2 : Int) ≤ (N : Int) := by omega
      go_enter Tryd.func43, Tryd.ntmps43
      go_wp2_with (go_at_call 67; refine (falling_any _ _ _ (HW.out.below (below_al _ _)) (by omega)).mono ?_; rintro e w1 ⟨rfl, rfl⟩)
      go_ret
      exact ⟨ret_bool (by rw [HF.out, decide_eq_true c1']), below_al _ _⟩
    · have cI : ¬ (2 : Int) ≤ (N : Int) := by omega
      go_enter Tryd.func43, Tryd.ntmps43
      go_wp2_with (go_at_call 67; refine (falling_any _ _ _ (HW.out.below (below_al _ _)) (by omega)).mono ?_; rintro e w1 ⟨rfl, rfl⟩)
      go_ret
      exact ⟨ret_bool (by rw [HF.out, decide_eq_false c1']), below_al _ _⟩
  · have HF : Hid (symsB d = (decide (1 ≤ N) && decide (M = N) && fallB d.wts)) := by
      show _ = _
      unfold symsB isB
      rw [if_neg (by omega)]
      simp [q0, q1, q2, q3, q4, q5, hN, hM]
    by_cases c1' : 1 ≤ N
    · have cI : (1 : Int) ≤ (N : Int) := by omega
      by_cases c2' : M = N
      · have HF2 : Hid (symsB d = fallB d.wts) := by
          show _ = _
          rw [HF.out, decide_eq_true c1', decide_eq_true c2']
          rfl
        have cJ : ((M : Int) == (N : Int)) = true := beq_iff_eq.2 (by omega)
        have cJ2 : (M : Int) = (N : Int) := by omega
        have HM := Lib.hid c2'
        clear HF c2'
        go_enter Tryd.func43, Tryd.ntmps43
        go_wp2_with (go_at_call 67; refine (falling_any _ _ _ (HW.out.below (below_al _ _)) (by omega)).mono ?_; rintro e w1 ⟨rfl, rfl⟩)
        go_ret
        exact ⟨ret_bool (by rw [HF2.out]), below_al _ _⟩
      · have cJ : ((M : Int) == (N : Int)) = false := by simpa using (show ¬ (M : Int) = (N : Int) by omega)
        have cJ2 : ¬ (M : Int) = (N : Int) := by omega
        go_enter Tryd.func43, Tryd.ntmps43
        go_wp2_with (go_at_call 67; refine (falling_any _ _ _ (HW.out.below (below_al _ _)) (by omega)).mono ?_; rintro e w1 ⟨rfl, rfl⟩)
        go_ret
        exact ⟨ret_bool (by rw [HF.out, decide_eq_true c1', decide_eq_false c2']; rfl), below_al _ _⟩
    · have cI : ¬ (1 : Int) ≤ (N : Int) := by omega
      have cd : decide ((1 : Int) ≤ (N : Int)) = false := decide_eq_false cI
      go_enter Tryd.func43, Tryd.ntmps43
      go_wp2_with (go_at_call 67; refine (falling_any _ _ _ (HW.out.below (below_al _ _)) (by omega)).mono ?_; rintro e w1 ⟨rfl, rfl⟩)
      go_ret
      exact ⟨ret_bool (by rw [HF.out, decide_eq_false c1']; rfl), below_al _ _⟩
  · have HF : Hid (symsB d = (decide (N = 0) && decide (M = 0))) := by
      show _ = _
      unfold symsB isB
      rw [if_neg (by omega)]
      simp [q0, q1, q2, q3, q4, q5, q6, hN, hM]
    by_cases c1' : N = 0
    · have cI : ((N : Int) == 0) = true := by simpa using c1'
      have cI2 : (N : Int) = 0 := by omega
      by_cases c2' : M = 0
      · have cJ : ((M : Int) == 0) = true := by simpa using c2'
        have HX := Lib.hid c1'
        have HY := Lib.hid c2'
        have cJ2 : (M : Int) = 0 := by omega
        clear c1' c2'
        go_enter Tryd.func43, Tryd.ntmps43
        go_wp2_with (go_at_call 67; refine (falling_any _ _ _ (HW.out.below (below_al _ _)) (by omega)).mono ?_; rintro e w1 ⟨rfl, rfl⟩)
        go_ret
        exact ⟨ret_bool (by rw [HF.out, decide_eq_true HX.out, decide_eq_true HY.out]; rfl), below_al _ _⟩
      · have cJ : ((M : Int) == 0) = false := by simpa using c2'
        have HX := Lib.hid c1'
        have cJ2 : ¬ (M : Int) = 0 := by omega
        clear c1'
        go_enter Tryd.func43, Tryd.ntmps43
        go_wp2_with (go_at_call 67; refine (falling_any _ _ _ (HW.out.below (below_al _ _)) (by omega)).mono ?_; rintro e w1 ⟨rfl, rfl⟩)
        go_ret
        exact ⟨ret_bool (by rw [HF.out, decide_eq_true HX.out, decide_eq_false c2']; rfl), below_al _ _⟩
    · have cI : ((N : Int) == 0) = false := by simpa using c1'
      have cI2 : ¬ (N : Int) = 0 := by omega
      go_enter Tryd.func43, Tryd.ntmps43
      go_wp2_with (go_at_call 67; refine (falling_any _ _ _ (HW.out.below (below_al _ _)) (by omega)).mono ?_; rintro e w1 ⟨rfl, rfl⟩)
      go_ret
      exact ⟨ret_bool (by rw [HF.out, decide_eq_false c1']; rfl), below_al _ _⟩
  · have HF : Hid (symsB d = false) := by
      show _ = _
      unfold symsB isB
      rw [if_neg (by omega)]
      simp [q0, q1, q2, q3, q4, q5, q6]
    go_enter Tryd.func43, Tryd.ntmps43
    go_wp2_with (go_at_call 67; refine (falling_any _ _ _ (HW.out.below (below_al _ _)) (by omega)).mono ?_; rintro e w1 ⟨rfl, rfl⟩)
    go_ret
    exact ⟨ret_bool (by rw [HF.out]), below_al _ _⟩
end Go.Proofs.YtjjlnmjapfcmaaaDoor
