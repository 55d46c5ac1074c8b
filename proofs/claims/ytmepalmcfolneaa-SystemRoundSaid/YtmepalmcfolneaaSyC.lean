
import Derived.Test.YtmepalmcfolneaaSyB
namespace Go.Proofs.Ytmepalmcfolneaa
open Go.RowKit
theorem below_al (w : World) (o : Obj) : Below w.heap.size w (w.alloc o) := (Below.refl _ _).alloc (Nat.le_refl _) o
theorem pair_eq (p : Int × Int) (a b c : Bool) (h1 : decide (p.1 ≤ p.2) = a) (h2 : heldB p.1 = b) (h3 : heldB p.2 = c) : pairB p = (a && b && c) := by
  unfold pairB
  rw [h1, h2, h3]
set_option maxRecDepth 100000 in
set_option maxHeartbeats 1600000 in
theorem rangeMay_any (xs : List (Int × Int)) (v : Value) (w : World) (h1 : RdP w v xs) (hl : xs.length ≤ 140737488355328) :
    Calls Try.prog 17 #[v] w fun e w' => e = .returned (.bool (rangeB xs)) ∧ Below w.heap.size w w' := by
  obtain ⟨a1, c1, rfl, hle1, h1⟩ := h1
  have HC := Lib.hid h1
  clear h1
  go_enter Try.func17, Try.ntmps17
  go_wp2
  go_loopw [4, 7] (fun _ i wr => ∃ k : Nat, k ≤ xs.length ∧ i = .int .i64 k ∧ Below w.heap.size w wr ∧ ∀ j, (hj : j < xs.length) → j < k → pairB xs[j] = true) (fun _ i _ => xs.length - (intOf i).toNat)
  case atStart => exact ⟨0, Nat.zero_le _, rfl, Below.refl _ _, fun j _ hj => absurd hj (by omega)⟩
  case round =>
    obtain ⟨k, hk, rfl, hbw, hall⟩ := hrel
    have HA := Lib.hid hall
    clear hall
    by_cases hlt : k < xs.length
    · obtain ⟨b, off, rfl, hb, hc⟩ := HC.out (by omega)
      have e1 := (hbw.cell (p := ⟨b, off + k * 2, none⟩) hb).trans (hc k hlt).1
      have e2 := (hbw.cell (p := ⟨b, off + k * 2 + 1, none⟩) hb).trans (hc k hlt).2
      clear hc
      have hi1 : (0:Int) ≤ (k:Int) := by omega
      have hws := hbw.size
      generalize hP : xs[k] = P at *
      obtain ⟨x, y⟩ := P
      simp only at e1 e2
      have HP := Lib.hid hP
      clear hP
      by_cases hxy : y < x
      · have HF := Lib.hid (range_no hlt (by rw [HP.out]; rw [pair_eq (x, y) false _ _ (decide_eq_false (by simp; omega)) rfl rfl]; rfl))
        go_wp2
        go_ret
        exact ⟨ret_bool HF.out, hbw.alloc hws _⟩
      · cases hx : heldB x
        · have HF := Lib.hid (range_no hlt (by rw [HP.out]; rw [pair_eq (x, y) true false _ (decide_eq_true (by simp; omega)) hx rfl]; rfl))
          have HX := Lib.hid hx
          clear hx
          go_wp2_with (go_at_call 28; refine (held_any _ _).mono ?_; rintro e w1 ⟨rfl, rfl⟩; rw [HX.out])
          go_ret
          exact ⟨ret_bool HF.out, hbw.alloc hws _⟩
        · cases hy : heldB y
          · have HF := Lib.hid (range_no hlt (by rw [HP.out]; rw [pair_eq (x, y) true true false (decide_eq_true (by simp; omega)) hx hy]; rfl))
            have HX := Lib.hid hx
            have HY := Lib.hid hy
            clear hx hy
            go_wp2_with (go_at_call 28; refine (held_any _ _).mono ?_; rintro e w1 ⟨rfl, rfl⟩; first | rw [HX.out] | rw [HY.out])
            go_ret
            exact ⟨ret_bool HF.out, hbw.alloc hws _⟩
          · have HK := Lib.hid (pair_eq (x, y) true true true (decide_eq_true (by simp; omega)) hx hy)
            have HX := Lib.hid hx
            have HY := Lib.hid hy
            clear hx hy
            go_wp2_with (go_at_call 28; refine (held_any _ _).mono ?_; rintro e w1 ⟨rfl, rfl⟩; first | rw [HX.out] | rw [HY.out])
            go_roundw
            case rel => exact ⟨k + 1, by omega, by go_num, hbw.alloc hws _, fun j hj hjk => by
              by_cases e : j = k
              · subst e; rw [HP.out]; exact HK.out
              · exact HA.out j hj (by omega)⟩
            case measure => simp [intOf]; omega
    · have HF := Lib.hid (range_of (l := xs) (fun j hj => HA.out j hj (by omega)))
      go_wp2
      go_ret
      exact ⟨ret_bool HF.out, hbw⟩
set_option maxRecDepth 100000 in
set_option maxHeartbeats 400000 in
theorem inAuto_any (s : ByteArray) (n : Int) (w : World) : Calls Try.prog 18 #[.string s, .int .i64 n] w fun e w' => e = .returned (.bool (autoB s n)) ∧ w = w' := by
  go_enter Try.func18, Try.ntmps18
  go_wp2
  all_goals go_ret
  all_goals exact ⟨ret_bool (by simp_all [autoB, isB]), rfl⟩
end Go.Proofs.Ytmepalmcfolneaa
