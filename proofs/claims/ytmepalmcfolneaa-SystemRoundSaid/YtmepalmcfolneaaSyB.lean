
import Derived.Test.YtmepalmcfolneaaSyA
import Derived.BigQuiet
import Derived.Deep.QuietTactic
import Derived.WalkLawsBesides
namespace Go.Proofs.Ytmepalmcfolneaa
open Go.RowKit
theorem held_eq (n : Int) : (wrap64 (wrap32 n) == n) = heldB n := by
  unfold heldB wrap64 wrap32
  rw [Bool.eq_iff_iff]
  simp
  omega
set_option maxRecDepth 100000 in
set_option maxHeartbeats 400000 in
theorem held_any (n : Int) (w : World) : Calls Try.prog 28 #[.int .i64 n] w fun e w' => e = .returned (.bool (heldB n)) ∧ w = w' := by
  go_enter Try.func28, Try.ntmps28
  go_wp2
  go_ret
  exact ⟨ret_bool (held_eq n), rfl⟩
set_option maxRecDepth 100000 in
set_option maxHeartbeats 400000 in
theorem near_any (n : Int) (w : World) : Calls Try.prog 11 #[.int .i64 n] w fun e w' => e = .returned (.bool (nearB n)) ∧ w = w' := by
  go_enter Try.func11, Try.ntmps11
  go_wp2
  all_goals go_ret
  all_goals exact ⟨ret_bool (by grind [nearB]), rfl⟩
set_option maxRecDepth 100000 in
set_option maxHeartbeats 800000 in
theorem falling_any (xs : List Int) (v : Value) (w : World) (h1 : Rd .i64 w v xs) (hl : xs.length ≤ 140737488355328) :
    Calls Try.prog 26 #[v] w fun e w' => e = .returned (.bool (fallB xs)) ∧ w = w' := by
  obtain ⟨a1, c1, rfl, hle1, h1⟩ := h1
  have HC := Lib.hid h1
  clear h1
  go_enter Try.func26, Try.ntmps26
  go_wp2
  go_loop [3, 4, 7] (fun _ _ i => ∃ k : Nat, k ≤ xs.length ∧ i = .int .i64 k ∧ ∀ j, j < k → okAt xs j = true) (fun _ _ i => xs.length - (intOf i).toNat)
  case atStart => exact ⟨0, Nat.zero_le _, rfl, fun j hj => absurd hj (by omega)⟩
  case round =>
    obtain ⟨k, hk, rfl, hall⟩ := hrel
    have HA := Lib.hid hall
    clear hall
    by_cases hlt : k < xs.length
    · obtain ⟨b, off, rfl, hb, hc⟩ := HC.out (by omega)
      have e1 := hc k hlt
      have e0 : 0 < k → w.cell? ⟨b, off + (k - 1), none⟩ = some (.int .i64 (nth xs (k - 1))) := fun _ => hc (k - 1) (by omega)
      clear hc
      have hi1 : (0:Int) ≤ (k:Int) := by omega
      by_cases hneg : nth xs k < 0
      · have HF := Lib.hid (fall_no hlt (decide_eq_false (fun hh => by omega)))
        have hd : decide (nth xs k < 0) = true := decide_eq_true hneg
        clear e0
        go_wp2
        go_ret
        exact ⟨ret_bool HF.out, rfl⟩
      · by_cases hk0 : 0 < k
        · have e2 := e0 hk0
          clear e0
          have hp : (k : Int) - 1 = ((k - 1 : Nat) : Int) := by omega
          have hkI : (0 : Int) < (k : Int) := by omega
          have hkI1 : (1 : Int) ≤ (k : Int) := by omega
          by_cases hge : nth xs (k - 1) ≤ nth xs k
          · have HF := Lib.hid (fall_no hlt (decide_eq_false (fun hh => by have := hh.2 hk0; omega)))
            go_wp2
            go_ret
            exact ⟨ret_bool HF.out, rfl⟩
          · have HK : Hid (okAt xs k = true) := decide_eq_true ⟨by omega, fun _ => by omega⟩
            go_wp2
            go_round
            case rel => exact ⟨k + 1, by omega, by go_num, fun j hj => by
              by_cases e : j = k
              · rw [e]; exact HK.out
              · exact HA.out j (by omega)⟩
            case measure => simp [intOf]; omega
        · have hkI : ¬ (0 : Int) < (k : Int) := by omega
          have hd0 : decide ((0 : Int) < (k : Int)) = false := decide_eq_false hkI
          have HK : Hid (okAt xs k = true) := decide_eq_true ⟨by omega, fun h => absurd h hk0⟩
          clear e0
          go_wp2
          go_round
          case rel => exact ⟨k + 1, by omega, by go_num, fun j hj => by
            by_cases e : j = k
            · rw [e]; exact HK.out
            · exact HA.out j (by omega)⟩
          case measure => simp [intOf]; omega
    · have HF := Lib.hid (fall_of (l := xs) (fun j hj => HA.out j (by omega)))
      go_wp2
      go_ret
      exact ⟨ret_bool HF.out, rfl⟩
set_option maxRecDepth 100000 in
set_option maxHeartbeats 800000 in
theorem short_any (xs : List ByteArray) (v : Value) (w : World) (h1 : RdTx w v xs) (hl : xs.length ≤ 140737488355328) :
    Calls Try.prog 27 #[v] w fun e w' => e = .returned (.bool (shortB xs)) ∧ w = w' := by
  obtain ⟨a1, c1, rfl, hle1, h1⟩ := h1
  have HC := Lib.hid h1
  clear h1
  go_enter Try.func27, Try.ntmps27
  go_wp2
  go_loop [4, 7] (fun _ i => ∃ k : Nat, k ≤ xs.length ∧ i = .int .i64 k ∧ ∀ j, (hj : j < xs.length) → j < k → (xs[j]).size ≤ 100) (fun _ i => xs.length - (intOf i).toNat)
  case atStart => exact ⟨0, Nat.zero_le _, rfl, fun j _ hj => absurd hj (by omega)⟩
  case round =>
    obtain ⟨k, hk, rfl, hall⟩ := hrel
    have HA := Lib.hid hall
    clear hall
    by_cases hlt : k < xs.length
    · obtain ⟨b, off, rfl, hb, hc⟩ := HC.out (by omega)
      have e1 := hc k hlt
      clear hc
      have hi1 : (0:Int) ≤ (k:Int) := by omega
      by_cases hbig : 100 < (xs[k]).size
      · have HF := Lib.hid (short_no hlt hbig)
        have hbI : (100 : Int) < ((xs[k]).size : Int) := by omega
        go_wp2
        go_ret
        exact ⟨ret_bool HF.out, rfl⟩
      · have hbI : ¬ (100 : Int) < ((xs[k]).size : Int) := by omega
        have HK : Hid ((xs[k]).size ≤ 100) := by
          show _ ≤ _
          omega
        go_wp2
        go_round
        case rel => exact ⟨k + 1, by omega, by go_num, fun j hj hjk => by
          by_cases e : j = k
          · subst e; exact HK.out
          · exact HA.out j hj (by omega)⟩
        case measure => simp [intOf]; omega
    · have HF := Lib.hid (short_of (l := xs) (fun j hj => HA.out j hj (by omega)))
      go_wp2
      go_ret
      exact ⟨ret_bool HF.out, rfl⟩
end Go.Proofs.Ytmepalmcfolneaa
