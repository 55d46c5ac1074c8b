
import Derived.Test.YtlkfibjbfnaagaaDoorDmD
import Derived.Test.YtlkfibjbfnaagaaDoorShelf
namespace Go.Proofs.YtlkfibjbfnaagaaDoor
open Go.RowKit Go.Maps Go.WideMaps Go.Shelf
/-! What a tree tells: no call of these turns it. -/
def IntsPost (w : World) (l : List Nat) (e : Ending) (w' : World) : Prop := ∃ v, e = .returned v ∧ Rd .i64 w' v (ints l) ∧ Below w.heap.size w w'
theorem rd_own {B : Nat} {w : World} {v : Value} {l : List Nat} (h : w.ownsRow B 3 1 v l.length ((ints l).map (Value.int .i64))) : Rd .i64 w v (ints l) := by
  have hl := h.lt
  have hc := fun g hg => h.cells (g := g) hg
  rcases h.2 with ⟨rfl, h0⟩ | ⟨g, cap, cur, rfl, b, c, d, _⟩
  · exact ⟨none, 0, by rw [ints_len, h0], by rw [ints_len]; omega, fun hp => by rw [ints_len] at hp; omega⟩
  · refine ⟨_, cap, by rw [ints_len], by rw [ints_len]; exact d, fun _ => ⟨g, 0, rfl, (hl g rfl).2, fun j hj => ?_⟩⟩
    have := hc g rfl j (.int .i64 (nth (ints l) j)) (by
      rw [List.getElem?_map, List.getElem?_eq_getElem hj]
      unfold nth
      rw [List.getD_eq_getElem?_getD, List.getElem?_eq_getElem hj]
      rfl)
    have hadd : (⟨g, 0, none⟩ : Addr).add j = ⟨g, j, none⟩ := by unfold Addr.add; split <;> simp_all
    rw [hadd] at this
    rw [Nat.zero_add]
    exact this
theorem rd_nil (w : World) (a : Option Addr) (c : Nat) : Rd .i64 w (.slice a 0 c) (ints []) := ⟨a, c, rfl, Nat.zero_le _, fun h => absurd h (by decide)⟩
def clone_post (w : World) (l : List Nat) (e : Ending) (w' : World) : Prop := ∃ v, e = .returned v ∧ w'.ownsRow w.heap.size 3 1 v l.length ((ints l).map (Value.int .i64)) ∧ Below w.heap.size w w'
theorem clone_any {w : World} {v : Value} {l : List Nat} (h : Rd .i64 w v (ints l)) (hl : l.length ≤ 100000000) : Calls Tryd.prog 43 #[v] w (clone_post w l) := by
  obtain ⟨a, c, rfl, hle, hc⟩ := h
  rw [ints_len] at hle hc ⊢
  by_cases h0 : l.length = 0
  · obtain rfl : l = [] := List.eq_nil_of_length_eq_zero h0
    cases a with
    | none => exact (Tryd.slices_Clone_int_nil 0 c w).mono fun e w' ⟨h1, h2⟩ => ⟨_, h1, World.ownsRow_nil _ _ _ _, by rw [h2]; exact Below.refl _ _⟩
    | some a => exact (Tryd.slices_Clone_int_zero a c w).mono fun e w' ⟨v', h1, h2, _, h3⟩ => ⟨_, h1, h2, h3⟩
  · obtain ⟨b, off, rfl, hb, hcc⟩ := hc (by omega)
    refine (Tryd.slices_Clone_int b off l.length c (ints l) w (by rw [ints_len]; exact Nat.le_refl _) (by omega) (fun j hj => ?_)).mono fun e w' ⟨v', h1, h2, _, h3⟩ => ⟨_, h1, ?_, h3⟩
    · rw [ints_len] at hj; exact hcc j hj
    · rw [List.take_of_length_le (by rw [ints_len]; exact Nat.le_refl _)] at h2; exact h2
def kidsS (es : List NdD) (i : Int) : List Nat := if 0 ≤ i then (match es[i.toNat]? with
  | some e => e.kids
  | none => []) else []
theorem kids_at {es : List NdD} {k : Nat} (h : k < es.length) : kidsS es k = (es[k]).kids := by
  unfold kidsS
  rw [if_pos (by omega), Int.toNat_natCast, List.getElem?_eq_getElem h]
theorem kids_no {es : List NdD} {i : Int} (h : thereS es i = false) : kidsS es i = [] := by
  unfold kidsS
  split
  · have := of_decide_eq_false h
    rw [List.getElem?_eq_none (by omega)]
  · rfl
/-- What a tree's nodes keep to. -/
structure WF (es : List NdD) : Prop where
  par : ∀ i, (h : i < es.length) → (es[i]).raw.par < i ∧ -1 ≤ (es[i]).raw.par ∧ (0 < i → 0 ≤ (es[i]).raw.par)
  ahead : ∀ i, (h : i < es.length) → (es[i]).ahead < i ∧ -1 ≤ (es[i]).ahead
  kids : ∀ i, (h : i < es.length) → ∀ k ∈ (es[i]).kids, i < k ∧ k < es.length
  few : ∀ i, (h : i < es.length) → (es[i]).kids.length ≤ es.length
set_option maxRecDepth 100000 in
set_option maxHeartbeats 1600000 in
theorem kids_any {w : World} {tb g c : Nat} {es : List NdD} (h : TreeR w tb g c es) (hw : WF es) (i : Int) : Calls Tryd.prog 22 #[tp tb, .int .i64 i] w (IntsPost w (kidsS es i)) := by
  have HT := Lib.hid (there_any h i)
  cases ht : thereS es i with
  | false =>
    rw [kids_no ht]
    rw [ht] at HT
    clear h ht
    go_enter Tryd.func22, Tryd.ntmps22
    go_wp2_with (go_at_call 37; (with_reducible refine HT.out.mono ?_); rintro e w1 ⟨rfl, rfl⟩)
    go_ret
    exact ⟨_, rfl, rd_nil _ _ _, Below.refl _ _⟩
  | true =>
    rw [ht] at HT
    obtain ⟨k, rfl, hk⟩ := there_yes ht
    rw [kids_at hk]
    obtain ⟨av, kv, ha, _, hkv⟩ := h.nodes k hk
    have hr := h.root
    have q5 := ha.c5
    have hlen := h.len
    have hfew := hw.few k hk
    have hkI : (k : Int) < (es.length : Int) := by omega
    have HC := Lib.hid (clone_any hkv (by omega))
    obtain ⟨a', c', rfl, _⟩ := hkv
    obtain ⟨L, hL⟩ : ∃ L, (es[k]).kids = L := ⟨_, rfl⟩
    rw [hL] at q5 HC ⊢
    clear h ha ht hL hfew hw
    go_enter Tryd.func22, Tryd.ntmps22
    go_wp2_with (first | (go_at_call 37; (with_reducible refine HT.out.mono ?_); rintro e w1 ⟨rfl, rfl⟩) | (go_at_call 43; (with_reducible refine HC.out.mono ?_); rintro e w1 ⟨v1, rfl, ho, hb⟩))
    go_ret
    exact ⟨_, rfl, rd_own ho, hb⟩
end Go.Proofs.YtlkfibjbfnaagaaDoor
