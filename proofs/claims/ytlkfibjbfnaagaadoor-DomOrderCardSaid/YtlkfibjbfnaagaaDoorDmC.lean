
import Derived.Test.YtlkfibjbfnaagaaDoorDmB
namespace Go.Proofs.YtlkfibjbfnaagaaDoor
open Go.RowKit
theorem ints_len (l : List Nat) : (ints l).length = l.length := List.length_map _
theorem ints_at {l : List Nat} {j : Nat} (h : j < l.length) : nth (ints l) j = (l[j] : Int) := by
  unfold nth ints
  rw [List.getD_eq_getElem?_getD, List.getElem?_map, List.getElem?_eq_getElem h]
  rfl
/-- Kids of a node are nodes of the table. -/
def KidsIn (es : List NdD) (l : List Nat) : Prop := ∀ k ∈ l, k < es.length
theorem lastEl_snoc {es : List NdD} {l : List Nat} {k : Nat} (h : k < es.length) : lastElS es (l ++ [k]) = if emptyB (es[k]).raw.tag = true then (es[k]).ahead else (k : Int) := by
  unfold lastElS
  rw [List.getLast?_concat]
  simp only
  rw [List.getElem?_eq_getElem h]
set_option maxRecDepth 100000 in
set_option maxHeartbeats 800000 in
theorem lastEl_any {w : World} {tb g c : Nat} {es : List NdD} (h : TreeR w tb g c es) {v : Value} {l : List Nat} (hv : Rd .i64 w v (ints l)) (hl : ∀ k ∈ l, k < es.length) (hll : l.length ≤ 1000) :
    Calls Tryd.prog 46 #[tp tb, v] w fun e w' => e = .returned (.int .i64 (lastElS es l)) ∧ w = w' := by
  obtain ⟨a, cc, rfl, hle, hv⟩ := hv
  rw [ints_len] at hle hv ⊢
  rcases List.eq_nil_or_concat l with rfl | ⟨l0, k, rfl⟩
  · clear h hv hle hl hll
    rw [show ([] : List Nat).length = 0 from rfl]
    go_enter Tryd.func46, Tryd.ntmps46
    go_wp2
    go_ret
    exact ⟨rfl, rfl⟩
  rw [List.concat_eq_append] at *
  have hk : k < es.length := hl k (by simp)
  have HE := Lib.hid (element_any h k)
  obtain ⟨av, kv, ha, _, _⟩ := h.nodes k hk
  have hr := h.root
  have q6 := ha.c6
  have hlen := h.len
  obtain ⟨b, off, rfl, hb, hc⟩ := hv (by simp)
  have hcl := hc l0.length (by simp)
  rw [ints_at (by simp)] at hcl
  simp only [List.getElem_concat_length] at hcl
  obtain ⟨N, hN⟩ : ∃ N, l0.length = N := ⟨_, rfl⟩
  rw [List.length_append, List.length_singleton, hN] at hle hll ⊢
  rw [hN] at hcl
  have hkI : (k : Int) < (es.length : Int) := by omega
  have hn0 : ¬ ((N : Int) + 1 = 0) := by omega
  have hn0' : (((N : Int) + 1) == 0) = false := by simpa using hn0
  rw [lastEl_snoc hk]
  rw [elem_at hk] at HE
  obtain ⟨A, hA⟩ : ∃ A, (es[k]).ahead = A := ⟨_, rfl⟩
  rw [hA] at q6 ⊢
  cases hT : emptyB (es[k]).raw.tag with
  | true =>
    rw [hT] at HE
    rw [if_pos rfl]
    clear h ha hT hc hv hl hA hN
    go_enter Tryd.func46, Tryd.ntmps46
    go_wp2_with (go_at_call 44; (with_reducible refine HE.out.mono ?_); rintro e w1 ⟨rfl, rfl⟩)
    go_ret
    exact ⟨rfl, rfl⟩
  | false =>
    rw [hT] at HE
    rw [if_neg (by decide)]
    clear h ha hT hc hv hl hA hN
    go_enter Tryd.func46, Tryd.ntmps46
    go_wp2_with (go_at_call 44; (with_reducible refine HE.out.mono ?_); rintro e w1 ⟨rfl, rfl⟩)
    go_ret
    exact ⟨rfl, rfl⟩
abbrev rawV (r : RawD) (u : Value) : Value := .agg #[.int .i64 r.par, .string r.tag, .string r.text, u]
set_option maxRecDepth 100000 in
set_option maxHeartbeats 800000 in
theorem fits_any {w : World} {tb g c : Nat} {es : List NdD} (h : TreeR w tb g c es) (r : RawD) (u : Value) :
    Calls Tryd.prog 32 #[tp tb, rawV r u] w fun e w' => e = .returned (.bool (fitsS es r)) ∧ Below w.heap.size w w' := by
  have hb := below_al' w (.cells #[.int .i64 r.par, .string r.tag, .string r.text, u] 37)
  have h' := h.below hb
  have HL := Lib.hid (len_any h')
  have HE := Lib.hid (element_any h' r.par)
  have HD := Lib.hid (depth_any h' r.par)
  obtain ⟨R, hR⟩ : ∃ R, fitsS es r = R := ⟨_, rfl⟩
  rw [hR]
  unfold fitsS at hR
  clear h h'
  by_cases h0 : es.length = 0
  · rw [if_pos h0] at hR
    rw [h0] at HL
    cases hp : (r.par == -1) with
    | false =>
      have HF := Lib.hid (show false = R by rw [← hR, hp]; rfl)
      clear hR h0
      go_enter Tryd.func32, Tryd.ntmps32
      go_wp2_with (go_at_call 12; (with_reducible refine HL.out.mono ?_); rintro e w1 ⟨rfl, rfl⟩)
      go_ret
      exact ⟨dret_bool HF.out, hb⟩
    | true =>
      have HF := Lib.hid (show (!(r.tag.toList == [])) = R by rw [← hR, hp]; rfl)
      clear hR h0
      go_enter Tryd.func32, Tryd.ntmps32
      go_wp2_with (go_at_call 12; (with_reducible refine HL.out.mono ?_); rintro e w1 ⟨rfl, rfl⟩)
      all_goals go_ret
      all_goals exact ⟨dret_bool (by rw [← HF.out]; simp), hb⟩
  · rw [if_neg h0] at hR
    have h0I : ¬ (es.length : Int) = 0 := by omega
    have h0' : ((es.length : Int) == 0) = false := by simpa using h0I
    cases he : elemS es r.par with
    | false =>
      have HF := Lib.hid (show false = R by rw [← hR, he]; rfl)
      rw [he] at HE
      clear hR h0 he
      go_enter Tryd.func32, Tryd.ntmps32
      go_wp2_with (first | (go_at_call 12; (with_reducible refine HL.out.mono ?_); rintro e w1 ⟨rfl, rfl⟩) | (go_at_call 44; (with_reducible refine HE.out.mono ?_); rintro e w1 ⟨rfl, rfl⟩))
      go_ret
      exact ⟨dret_bool HF.out, hb⟩
    | true =>
      obtain ⟨D, hD⟩ : ∃ D, depS es r.par = D := ⟨_, rfl⟩
      rw [hD] at hR HD
      have HF := Lib.hid (show decide (D < 64) = R by rw [← hR, he]; rfl)
      rw [he] at HE
      clear hR h0 he hD
      go_enter Tryd.func32, Tryd.ntmps32
      go_wp2_with (first | (go_at_call 12; (with_reducible refine HL.out.mono ?_); rintro e w1 ⟨rfl, rfl⟩) | (go_at_call 44; (with_reducible refine HE.out.mono ?_); rintro e w1 ⟨rfl, rfl⟩) | (go_at_call 25; (with_reducible refine HD.out.mono ?_); rintro e w1 ⟨rfl, rfl⟩))
      all_goals go_ret
      all_goals exact ⟨dret_bool (by rw [← HF.out]), hb⟩
end Go.Proofs.YtlkfibjbfnaagaaDoor
