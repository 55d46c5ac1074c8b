
import Derived.Test.YtlajkfnlkkgneaaTkX
namespace Go.Proofs.Ytlajkfnlkkgneaa
open Go.RowKit

theorem cells_at : ∀ (l : List Tok) (k j : Nat) (h : k < l.length) (u : Value), (tcells l[k])[j]? = some u → (l.flatMap tcells)[k * 6 + j]? = some u
  | t :: l, 0, j, _, u, hu => by
    have hu2 : (tcells t)[j]? = some u := hu
    rw [List.flatMap_cons, Nat.zero_mul, Nat.zero_add, List.getElem?_append_left (List.getElem?_eq_some_iff.1 hu2).1]
    exact hu2
  | t :: l, k + 1, j, h, u, hu => by
    rw [List.flatMap_cons, show (k + 1) * 6 + j = 6 + (k * 6 + j) by omega, List.getElem?_append_right (by rw [tcells_len]; omega), tcells_len, Nat.add_sub_cancel_left]
    exact cells_at l k j (by simpa using h) u hu

/-- The k-th token's cells. -/
def CellsAt (w : World) (b k : Nat) (t : Tok) : Prop :=
  w.cell? ⟨b, k * 6, none⟩ = some (.int .i64 t.kind) ∧ w.cell? ⟨b, k * 6 + 1, none⟩ = some (.string t.text) ∧ w.cell? ⟨b, k * 6 + 2, none⟩ = some (.int .i64 t.int) ∧
  w.cell? ⟨b, k * 6 + 3, none⟩ = some (.bool t.whole) ∧ w.cell? ⟨b, k * 6 + 4, none⟩ = some (.bool t.sign) ∧ w.cell? ⟨b, k * 6 + 5, none⟩ = some (.bool t.id)
theorem cellsAt_of {w : World} {b : Nat} {l : List Tok} (hc : ∀ j u, (l.flatMap tcells)[j]? = some u → w.cell? ⟨b, j, none⟩ = some u) {k : Nat} (h : k < l.length) : CellsAt w b k l[k] :=
  ⟨hc _ _ (cells_at l k 0 h _ rfl), hc _ _ (cells_at l k 1 h _ rfl), hc _ _ (cells_at l k 2 h _ rfl), hc _ _ (cells_at l k 3 h _ rfl), hc _ _ (cells_at l k 4 h _ rfl), hc _ _ (cells_at l k 5 h _ rfl)⟩

set_option maxRecDepth 100000 in
set_option maxHeartbeats 800000 in
theorem tokens_same (l : List Tok) (v1 v2 : Value) (w : World) (h1 : RdT w v1 l) (h2 : RdT w v2 l) (hl : l.length ≤ 1000000000) :
    Calls Try.prog 5 #[v1, v2] w fun e w' => e = .returned (.bool true) ∧ ∃ n, w' = w.drewN n := by
  obtain ⟨a1, c1, rfl, hle1, h1⟩ := h1
  obtain ⟨a2, c2, rfl, hle2, h2⟩ := h2
  by_cases h0 : 0 < l.length
  · obtain ⟨b1, rfl, hb1, hc1⟩ := h1 h0
    obtain ⟨b2, rfl, hb2, hc2⟩ := h2 h0
    have HC1 := Lib.hid hc1
    have HC2 := Lib.hid hc2
    clear hc1 hc2 h1 h2
    go_enter Try.func5, Try.ntmps5
    go_wp2
    go_loopw [5] (fun i wr => ∃ k n : Nat, k ≤ l.length ∧ i = .int .i64 k ∧ wr = w.drewN n) (fun i _ => l.length - (intOf i).toNat)
    case atStart => exact ⟨0, 0, Nat.zero_le _, rfl, rfl⟩
    case round =>
      obtain ⟨k, n, hk, rfl, rfl⟩ := hrel
      by_cases hlt : k < l.length
      · obtain ⟨p0, p1, p2, p3, p4, p5⟩ := cellsAt_of HC1.out hlt
        obtain ⟨q0, q1, q2, q3, q4, q5⟩ := cellsAt_of HC2.out hlt
        have hi1 : (0 : Int) ≤ (k : Int) := by omega
        have hne : ∀ W : World, (binOp .neq 26 (.agg #[.int .i64 l[k].kind, .string l[k].text, .int .i64 l[k].int, .bool l[k].whole, .bool l[k].sign, .bool l[k].id]) (.agg #[.int .i64 l[k].kind, .string l[k].text, .int .i64 l[k].int, .bool l[k].whole, .bool l[k].sign, .bool l[k].id])).run Try.prog W = .ok (.bool false) W := fun W => by
          have h := tokNe_run l[k] l[k] W
          rw [(tokB_iff _ _).2 rfl] at h
          exact h
        generalize l[k] = t at *
        go_wp2
        go_quiet (fail)
        go_wp2
        go_roundw
        case rel => exact ⟨k + 1, _, by omega, by go_num, rfl⟩
        case measure => simp [intOf]; omega
      · go_wp2
        go_ret
        exact ⟨rfl, _, rfl⟩
  · obtain rfl : l = [] := List.eq_nil_of_length_eq_zero (by omega)
    clear h1 h2
    go_enter Try.func5, Try.ntmps5
    go_wp2
    refine wp_loop_rounds 1 ?_
    rw [rounds_succ]
    go_wp2
    go_ret
    exact ⟨rfl, 0, rfl⟩
end Go.Proofs.Ytlajkfnlkkgneaa
