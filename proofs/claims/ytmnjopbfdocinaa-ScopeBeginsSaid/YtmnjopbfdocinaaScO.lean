
import Derived.Test.YtmnjopbfdocinaaScN
namespace Go.Proofs.Ytmnjopbfdocinaa
open Go.RowKit
set_option maxRecDepth 100000 in
set_option maxHeartbeats 1600000 in
theorem ScopeBegins_any (w : World) (xs : List Int) (v1 : Value) (h1 : Rd .i64 w v1 xs) (_w1 : ∀ x ∈ xs, (Lit.int .i64 x).wf = true) (_l1 : xs.length ≤ maxLen) (ys : List Int) (v2 : Value) (h2 : Rd .i64 w v2 ys) (_w2 : ∀ x ∈ ys, (Lit.int .i64 x).wf = true) (_l2 : ys.length ≤ maxLen) (zs : List Int) (v3 : Value) (h3 : Rd .i64 w v3 zs) (_w3 : ∀ x ∈ zs, (Lit.int .i64 x).wf = true) (_l3 : zs.length ≤ maxLen) :
    Calls Try.prog 5 #[v1, v2, v3] w fun e w' => e = .returned (.bool true) ∧ Below w.heap.size w w' := by
  by_cases g1 : xs.length ≤ 8
  · by_cases g2 : ys.length ≤ 8
    · by_cases g3 : zs.length ≤ 8
      · exact begins_yes w xs ys zs v1 v2 v3 h1 h2 h3 g1 g2 g3
      · obtain ⟨a1, c1, rfl, e1, _⟩ := h1
        obtain ⟨a2, c2, rfl, e2, _⟩ := h2
        obtain ⟨a3, c3, rfl, e3, _⟩ := h3
        obtain ⟨L1, hL1⟩ : ∃ L, xs.length = L := ⟨_, rfl⟩
        obtain ⟨L2, hL2⟩ : ∃ L, ys.length = L := ⟨_, rfl⟩
        obtain ⟨L3, hL3⟩ : ∃ L, zs.length = L := ⟨_, rfl⟩
        rw [hL1] at g1 e1 ⊢
        rw [hL2] at g2 e2 ⊢
        rw [hL3] at g3 e3 ⊢
        have n1 : ¬ 8 < L1 := by omega
        have n2 : ¬ 8 < L2 := by omega
        have n3 : 8 < L3 := by omega
        clear hL1 hL2 hL3 g1 g2 g3
        go_enter Try.func5, Try.ntmps5
        go_wp2_with (go_at_call 6; (with_reducible refine (awake15_any _).mono ?_); rintro e w2 ⟨rfl, hb2⟩)
        go_ret
        exact ⟨rfl, hb2⟩
    · obtain ⟨a1, c1, rfl, e1, _⟩ := h1
      obtain ⟨a2, c2, rfl, e2, _⟩ := h2
      obtain ⟨L1, hL1⟩ : ∃ L, xs.length = L := ⟨_, rfl⟩
      obtain ⟨L2, hL2⟩ : ∃ L, ys.length = L := ⟨_, rfl⟩
      rw [hL1] at g1 e1 ⊢
      rw [hL2] at g2 e2 ⊢
      have n1 : ¬ 8 < L1 := by omega
      have n2 : 8 < L2 := by omega
      clear hL1 hL2 g1 g2 h3
      go_enter Try.func5, Try.ntmps5
      go_wp2_with (go_at_call 6; (with_reducible refine (awake15_any _).mono ?_); rintro e w2 ⟨rfl, hb2⟩)
      go_ret
      exact ⟨rfl, hb2⟩
  · obtain ⟨a1, c1, rfl, e1, _⟩ := h1
    obtain ⟨L1, hL1⟩ : ∃ L, xs.length = L := ⟨_, rfl⟩
    rw [hL1] at g1 e1 ⊢
    have n1 : 8 < L1 := by omega
    clear hL1 g1 h2 h3
    go_enter Try.func5, Try.ntmps5
    go_wp2_with (go_at_call 6; (with_reducible refine (awake15_any _).mono ?_); rintro e w2 ⟨rfl, hb2⟩)
    go_ret
    exact ⟨rfl, hb2⟩
end Go.Proofs.Ytmnjopbfdocinaa
