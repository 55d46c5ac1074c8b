import Derived.Test.YtbmbjbfgphhhcaaPtsA
import Derived.WalkKit
import Derived.BigQuiet
import Derived.Deep.QuietTactic
import Derived.Lib.Hide
namespace Go.Proofs.Ytbmbjbfgphhhcaa
open Go.RowKit

def nth (xs : List Int) (j : Nat) : Int := xs.getD j 0
/-- A slice of integers that reads as a list. -/
def Rd (k : IntKind) (w : World) (v : Value) (xs : List Int) : Prop :=
  ∃ a c, v = .slice a xs.length c ∧ xs.length ≤ c ∧ (0 < xs.length → ∃ b off, a = some ⟨b, off, none⟩ ∧ b < w.heap.size ∧ ∀ j, j < xs.length → w.cell? ⟨b, off + j, none⟩ = some (.int k (nth xs j)))

theorem Rd.below {k : IntKind} {w w' : World} {v : Value} {xs : List Int} (h : Rd k w v xs) (hb : Below w.heap.size w w') : Rd k w' v xs := by
  obtain ⟨a, c, hv, hle, h⟩ := h
  refine ⟨a, c, hv, hle, fun hp => ?_⟩
  obtain ⟨b, off, ha, hlt, hc⟩ := h hp
  exact ⟨b, off, ha, Nat.lt_of_lt_of_le hlt hb.size, fun j hj => by rw [hb.cell (p := ⟨b, off + j, none⟩) hlt]; exact hc j hj⟩

theorem list_ext_getD {xs ys : List Int} (hl : xs.length = ys.length) (h : ∀ j, j < xs.length → nth xs j = nth ys j) : xs = ys := by
  apply List.ext_getElem hl
  intro i h1 h2
  have := h i h1
  simpa [nth, List.getD_eq_getElem?_getD, h1, h2] using this


set_option maxHeartbeats 400000 in
theorem same_any (xs ys : List Int) (v1 v2 : Value) (w : World) (h1 : Rd .i32 w v1 xs) (h2 : Rd .i32 w v2 ys) (hl : xs.length ≤ 140737488355328) :
    Calls Try.prog 11 #[v1, v2] w fun e w' => e = .returned (.bool (decide (xs = ys))) ∧ ∃ n, w' = w.drewN n := by
  obtain ⟨a1, c1, rfl, hle1, h1⟩ := h1
  obtain ⟨a2, c2, rfl, hle2, h2⟩ := h2
  by_cases hlen : xs.length = ys.length
  · have hlenB : ((xs.length : Int) != (ys.length : Int)) = false := by simp [hlen]
    by_cases h0 : 0 < xs.length
    · obtain ⟨b1, o1, rfl, hb1, hc1⟩ := h1 h0
      obtain ⟨b2, o2, rfl, hb2, hc2⟩ := h2 (by omega)
      have HC1 := Lib.hid hc1
      have HC2 := Lib.hid hc2
      have HL := Lib.hid hlen
      clear hc1 hc2 h1 h2 
      clear hle1 hle2
      have hle1 : xs.length ≤ ys.length := by omega
      have hle2 : ys.length ≤ xs.length := by omega
      clear hlen
      go_enter Try.func11, Try.ntmps11
      go_wp2
      go_loopw [5] (fun i wr => ∃ k n : Nat, k ≤ xs.length ∧ i = .int .i64 k ∧ wr = w.drewN n ∧ ∀ j, j < k → nth xs j = nth ys j) (fun i _ => xs.length - (intOf i).toNat)
      case atStart => exact ⟨0, 0, Nat.zero_le _, rfl, rfl, fun j hj => absurd hj (by omega)⟩
      case round =>
        obtain ⟨k, n, hk, rfl, rfl, hall⟩ := hrel
        have HA := Lib.hid hall
        clear hall
        by_cases hlt : k < xs.length
        · have hlt2 : k < ys.length := by omega
          have e1 := HC1.out k hlt
          have e2 := HC2.out k hlt2
          have hi1 : (0:Int) ≤ (k:Int) := by omega
          by_cases heq : nth xs k = nth ys k
          · have hn : (nth xs k != nth ys k) = false := by simp [heq]
            have HE := Lib.hid heq
            clear heq
            go_wp2
            go_quiet (fail)
            go_wp2
            go_roundw
            case rel => exact ⟨k + 1, _, by omega, by go_num, rfl, fun j hj => by
              by_cases e : j = k
              · rw [e]; exact HE.out
              · exact HA.out j (by omega)⟩
            case measure => simp [intOf]; omega
          · have hn : (nth xs k != nth ys k) = true := by simp [heq]
            have HE := Lib.hid heq
            clear heq
            go_wp2
            go_quiet (fail)
            go_wp2
            go_ret
            exact ⟨ret_bool (by
              have : xs ≠ ys := fun e => HE.out (by rw [e])
              simp [this]), _, World.drewN_drewN _ _ _⟩
        · go_wp2
          go_ret
          exact ⟨ret_bool (by
              have : xs = ys := list_ext_getD HL.out (fun j hj => HA.out j (by omega))
              simp [this]), _, rfl⟩
    · have e1 : xs = [] := List.eq_nil_of_length_eq_zero (by omega)
      have e2 : ys = [] := List.eq_nil_of_length_eq_zero (by omega)
      subst e1 e2
      clear h1 h2
      go_enter Try.func11, Try.ntmps11
      go_wp2
      refine wp_loop_rounds 1 ?_
      rw [rounds_succ]
      go_wp2
      go_ret
      exact ⟨ret_bool (by simp), 0, rfl⟩
  · have hlenB : ((xs.length : Int) != (ys.length : Int)) = true := by simp; omega
    have hne : xs ≠ ys := fun e => hlen (by rw [e])
    have hlen2 : ¬ (xs.length : Int) = ys.length := by omega
    clear h1 h2
    go_enter Try.func11, Try.ntmps11
    go_wp2
    go_ret
    exact ⟨ret_bool (by simp [hne]), 0, rfl⟩
end Go.Proofs.Ytbmbjbfgphhhcaa
