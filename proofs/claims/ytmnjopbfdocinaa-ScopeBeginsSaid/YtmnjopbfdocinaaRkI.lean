
import Derived.Test.YtmnjopbfdocinaaRkA
import Derived.BigQuiet
import Derived.Deep.QuietTactic
namespace Go.Proofs.Ytmnjopbfdocinaa
open Go.RowKit
/-! fleuronalike.Ints: equality of two rows of numbers. -/
theorem drewK_below (w : World) (n : Nat) : Below w.heap.size w (w.drewN n) := by
  induction n with
  | zero => exact Below.refl _ _
  | succ n ih => exact ⟨ih.os, ih.tape, ih.output, ih.size, ih.block⟩
theorem nthK_get {l : List Int} {k : Nat} (h : k < l.length) : nth l k = l[k] := by
  unfold nth
  rw [List.getD_eq_getElem?_getD, List.getElem?_eq_getElem h]
  rfl
set_option maxRecDepth 100000 in
set_option maxHeartbeats 1600000 in
theorem intsK_any {w : World} {v1 v2 : Value} {l1 l2 : List Int} (h1 : Rd .i64 w v1 l1) (h2 : Rd .i64 w v2 l2) (b1 : l1.length ≤ 100000000) (b2 : l2.length ≤ 100000000) :
    Calls Try.prog 12 #[v1, v2] w fun e w' => e = .returned (.bool (decide (l1 = l2))) ∧ Below w.heap.size w w' := by
  obtain ⟨a1, c1, rfl, hle1, h1⟩ := h1
  obtain ⟨a2, c2, rfl, hle2, h2⟩ := h2
  by_cases hl : l1.length = l2.length
  · obtain ⟨N, hN⟩ : ∃ N, l1.length = N := ⟨_, rfl⟩
    have hN2 : l2.length = N := by omega
    have H1 := Lib.hid h1
    have H2 := Lib.hid h2
    have HN := Lib.hid hN
    have HN2 := Lib.hid hN2
    obtain ⟨R, hR⟩ : ∃ R, decide (l1 = l2) = R := ⟨_, rfl⟩
    have HR := Lib.hid hR
    rw [hN] at hle1 b1 ⊢
    rw [hN2] at hle2 b2 ⊢
    rw [hR]
    clear h1 h2 hl hN hN2 hR
    go_enter Try.func12, Try.ntmps12
    go_wp2
    go_loopw [5] (fun iv wr => ∃ k : Nat, k ≤ N ∧ iv = .int .i64 k ∧ (∀ j, j < k → nth l1 j = nth l2 j) ∧ Below w.heap.size w wr) (fun iv _ => N - (intOf iv).toNat)
    case atStart => exact ⟨0, Nat.zero_le _, rfl, fun j hj => absurd hj (Nat.not_lt_zero _), Below.refl _ _⟩
    case round =>
      obtain ⟨k, hk, rfl, hs, hb⟩ := hrel
      have HS := Lib.hid hs
      clear hs
      by_cases hlt : k < N
      · have hltI : (k : Int) < (N : Int) := by omega
        obtain ⟨p1, o1, rfl, hp1, hc1⟩ := H1.out (by rw [HN.out]; omega)
        obtain ⟨p2, o2, rfl, hp2, hc2⟩ := H2.out (by rw [HN2.out]; omega)
        have q1 := (hb.cell (p := ⟨p1, o1 + k, none⟩) hp1).trans (hc1 k (by rw [HN.out]; exact hlt))
        have q2 := (hb.cell (p := ⟨p2, o2 + k, none⟩) hp2).trans (hc2 k (by rw [HN2.out]; exact hlt))
        obtain ⟨x, hx⟩ : ∃ x, nth l1 k = x := ⟨_, rfl⟩
        obtain ⟨y, hy⟩ : ∃ y, nth l2 k = y := ⟨_, rfl⟩
        rw [hx] at q1
        rw [hy] at q2
        have HX := Lib.hid hx
        have HY := Lib.hid hy
        have HB := Lib.hid hb
        clear hc1 hc2 hx hy hb
        by_cases hxy : x = y
        · have hne : (x == y) = true := by simpa using hxy
          have hne2 : (x != y) = false := by simpa using hxy
          go_wp2
          go_quiet (fail)
          go_wp2
          go_roundw
          case rel => exact ⟨k + 1, by omega, by go_num, fun j hj => by
            rcases Nat.lt_or_eq_of_le (Nat.le_of_lt_succ hj) with hj | rfl
            · exact HS.out j hj
            · rw [HX.out, HY.out]; exact hxy, HB.out.trans ((drewK_below wr _).mono HB.out.size)⟩
          case measure => simp [intOf]; omega
        · have hne : (x == y) = false := by simpa using hxy
          have hne2 : (x != y) = true := by simpa using hxy
          have HF := Lib.hid (show false = R by
            rw [← HR.out]
            exact (decide_eq_false (fun e => hxy (by rw [← HX.out, ← HY.out, e]))).symm)
          go_wp2
          go_quiet (fail)
          go_wp2
          go_ret
          exact ⟨by rw [← HF.out]; rfl, HB.out.trans ((drewK_below wr _).mono HB.out.size)⟩
      · have hltI : ¬ (k : Int) < (N : Int) := by omega
        obtain rfl : k = N := by omega
        have HF := Lib.hid (show true = R by
          rw [← HR.out]
          refine (decide_eq_true (List.ext_getElem (by rw [HN.out, HN2.out]) fun j hj1 hj2 => ?_)).symm
          rw [← nthK_get hj1, ← nthK_get hj2]
          exact HS.out j (by rw [← HN.out]; exact hj1))
        go_wp2
        go_ret
        exact ⟨by rw [← HF.out]; rfl, hb⟩
  · have hlI : ¬ (l1.length : Int) = (l2.length : Int) := by omega
    have hlB : ((l1.length : Int) == (l2.length : Int)) = false := by simpa using hlI
    have hlB2 : ((l1.length : Int) != (l2.length : Int)) = true := by simpa using hlI
    have HF := Lib.hid (show decide (l1 = l2) = false from decide_eq_false (fun e => hl (by rw [e])))
    clear h1 h2
    go_enter Try.func12, Try.ntmps12
    go_wp2
    go_ret
    exact ⟨by rw [HF.out]; rfl, Below.refl _ _⟩
end Go.Proofs.Ytmnjopbfdocinaa
