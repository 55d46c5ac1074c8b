
import Derived.Test.YtlkfibjbfnaagaaDoorDmA
import Derived.BigQuiet
import Derived.Deep.QuietTactic
import Derived.WalkLawsBesides
namespace Go.Proofs.YtlkfibjbfnaagaaDoor
open Go.RowKit
theorem below_al' (w : World) (o : Obj) : Below w.heap.size w (w.alloc o) := (Below.refl _ _).alloc (Nat.le_refl _) o
theorem dm_seq {w a b : World} (h : Below w.heap.size w a) (k : Below a.heap.size a b) : Below w.heap.size w b := h.trans (k.mono h.size)
theorem dret_int {k : IntKind} {a b : Int} (h : a = b) : Ending.returned (.int k a) = .returned (.int k b) := by rw [h]
theorem dret_bool {a b : Bool} (h : a = b) : Ending.returned (.bool a) = .returned (.bool b) := by rw [h]
abbrev tp (tb : Nat) : Value := .pointer (some ⟨tb, 0, none⟩)
set_option maxRecDepth 100000 in
set_option maxHeartbeats 800000 in
theorem len_nil (w : World) : Calls Tryd.prog 12 #[.pointer none] w fun e w' => e = .returned (.int .i64 0) ∧ w = w' := by
  go_enter Tryd.func12, Tryd.ntmps12
  go_wp2
  go_ret
  exact ⟨rfl, rfl⟩
set_option maxRecDepth 100000 in
set_option maxHeartbeats 800000 in
theorem len_any {w : World} {tb g c : Nat} {es : List NdD} (h : TreeR w tb g c es) : Calls Tryd.prog 12 #[tp tb] w fun e w' => e = .returned (.int .i64 es.length) ∧ w = w' := by
  have hr := h.root
  clear h
  go_enter Tryd.func12, Tryd.ntmps12
  go_wp2
  go_ret
  exact ⟨rfl, rfl⟩
set_option maxRecDepth 100000 in
set_option maxHeartbeats 800000 in
theorem there_nil (i : Int) (w : World) : Calls Tryd.prog 37 #[.pointer none, .int .i64 i] w fun e w' => e = .returned (.bool false) ∧ w = w' := by
  by_cases h0 : 0 ≤ i
  · have h1 : ¬ i < 0 := by omega
    have h2 : decide (i < 0) = false := decide_eq_false h1
    go_enter Tryd.func37, Tryd.ntmps37
    go_wp2_with (go_at_call 12; (with_reducible refine (len_nil _).mono ?_); rintro e w1 ⟨rfl, rfl⟩)
    go_ret
    exact ⟨rfl, rfl⟩
  · have h1 : i < 0 := by omega
    go_enter Tryd.func37, Tryd.ntmps37
    go_wp2
    go_ret
    exact ⟨rfl, rfl⟩
set_option maxRecDepth 100000 in
set_option maxHeartbeats 800000 in
theorem there_any {w : World} {tb g c : Nat} {es : List NdD} (h : TreeR w tb g c es) (i : Int) : Calls Tryd.prog 37 #[tp tb, .int .i64 i] w fun e w' => e = .returned (.bool (thereS es i)) ∧ w = w' := by
  have HL := Lib.hid (len_any h)
  clear h
  by_cases h0 : 0 ≤ i
  · by_cases h1 : i < (es.length : Int)
    · have HT := Lib.hid (show true = thereS es i from (decide_eq_true ⟨h0, h1⟩).symm)
      go_enter Tryd.func37, Tryd.ntmps37
      go_wp2_with (go_at_call 12; (with_reducible refine HL.out.mono ?_); rintro e w1 ⟨rfl, rfl⟩)
      go_ret
      exact ⟨dret_bool HT.out, rfl⟩
    · have HT := Lib.hid (show false = thereS es i from (decide_eq_false (fun hh => h1 hh.2)).symm)
      have h2 : decide (i < (es.length : Int)) = false := decide_eq_false h1
      go_enter Tryd.func37, Tryd.ntmps37
      go_wp2_with (go_at_call 12; (with_reducible refine HL.out.mono ?_); rintro e w1 ⟨rfl, rfl⟩)
      go_ret
      exact ⟨dret_bool HT.out, rfl⟩
  · have h1 : i < 0 := by omega
    have HT := Lib.hid (show false = thereS es i from (decide_eq_false (fun hh => h0 hh.1)).symm)
    go_enter Tryd.func37, Tryd.ntmps37
    go_wp2
    go_ret
    exact ⟨dret_bool HT.out, rfl⟩
theorem there_yes {es : List NdD} {i : Int} (h : thereS es i = true) : ∃ k : Nat, i = k ∧ k < es.length := by
  have := of_decide_eq_true h
  exact ⟨i.toNat, by omega, by omega⟩
theorem elem_at {es : List NdD} {k : Nat} (h : k < es.length) : elemS es k = !emptyB (es[k]).raw.tag := by
  unfold elemS
  rw [if_pos (by omega), Int.toNat_natCast, List.getElem?_eq_getElem h]
theorem dep_at {es : List NdD} {k : Nat} (h : k < es.length) : depS es k = (es[k]).depth := by
  unfold depS
  rw [if_pos (by omega), Int.toNat_natCast, List.getElem?_eq_getElem h]
theorem elem_no {es : List NdD} {i : Int} (h : thereS es i = false) : elemS es i = false := by
  unfold elemS
  split
  · have := of_decide_eq_false h
    rw [List.getElem?_eq_none (by omega)]
  · rfl
theorem dep_no {es : List NdD} {i : Int} (h : thereS es i = false) : depS es i = 0 := by
  unfold depS
  split
  · have := of_decide_eq_false h
    rw [List.getElem?_eq_none (by omega)]
  · rfl
set_option maxRecDepth 100000 in
set_option maxHeartbeats 800000 in
theorem element_any {w : World} {tb g c : Nat} {es : List NdD} (h : TreeR w tb g c es) (i : Int) : Calls Tryd.prog 44 #[tp tb, .int .i64 i] w fun e w' => e = .returned (.bool (elemS es i)) ∧ w = w' := by
  have HT := Lib.hid (there_any h i)
  cases ht : thereS es i with
  | false =>
    rw [elem_no ht]
    rw [ht] at HT
    clear h ht
    go_enter Tryd.func44, Tryd.ntmps44
    go_wp2_with (go_at_call 37; (with_reducible refine HT.out.mono ?_); rintro e w1 ⟨rfl, rfl⟩)
    go_ret
    exact ⟨rfl, rfl⟩
  | true =>
    rw [ht] at HT
    obtain ⟨k, rfl, hk⟩ := there_yes ht
    rw [elem_at hk]
    obtain ⟨av, kv, ha, _, _⟩ := h.nodes k hk
    have hr := h.root
    have q1 := ha.c1
    have hlen := h.len
    have hkI : (k : Int) < (es.length : Int) := by omega
    obtain ⟨T, hT⟩ : ∃ T, (es[k]).raw.tag = T := ⟨_, rfl⟩
    rw [hT] at q1 ⊢
    clear h ha ht hT
    have HQ := Lib.hid (show (!(T.toList == [])) = (!emptyB T) from rfl)
    go_enter Tryd.func44, Tryd.ntmps44
    go_wp2_with (go_at_call 37; (with_reducible refine HT.out.mono ?_); rintro e w1 ⟨rfl, rfl⟩)
    all_goals go_ret
    all_goals exact ⟨dret_bool (by rw [← HQ.out]; simp), rfl⟩
set_option maxRecDepth 100000 in
set_option maxHeartbeats 800000 in
theorem depth_any {w : World} {tb g c : Nat} {es : List NdD} (h : TreeR w tb g c es) (i : Int) : Calls Tryd.prog 25 #[tp tb, .int .i64 i] w fun e w' => e = .returned (.int .i64 (depS es i)) ∧ w = w' := by
  have HT := Lib.hid (there_any h i)
  cases ht : thereS es i with
  | false =>
    rw [dep_no ht]
    rw [ht] at HT
    clear h ht
    go_enter Tryd.func25, Tryd.ntmps25
    go_wp2_with (go_at_call 37; (with_reducible refine HT.out.mono ?_); rintro e w1 ⟨rfl, rfl⟩)
    go_ret
    exact ⟨rfl, rfl⟩
  | true =>
    rw [ht] at HT
    obtain ⟨k, rfl, hk⟩ := there_yes ht
    rw [dep_at hk]
    obtain ⟨av, kv, ha, _, _⟩ := h.nodes k hk
    have hr := h.root
    have q1 := ha.c4
    have hlen := h.len
    have hkI : (k : Int) < (es.length : Int) := by omega
    obtain ⟨T, hT⟩ : ∃ T, (es[k]).depth = T := ⟨_, rfl⟩
    rw [hT] at q1 ⊢
    clear h ha ht hT
    go_enter Tryd.func25, Tryd.ntmps25
    go_wp2_with (go_at_call 37; (with_reducible refine HT.out.mono ?_); rintro e w1 ⟨rfl, rfl⟩)
    go_ret
    exact ⟨rfl, rfl⟩
end Go.Proofs.YtlkfibjbfnaagaaDoor
