
import Derived.Test.YtlkfibjbfnaagaaDoorDmJ
namespace Go.Proofs.YtlkfibjbfnaagaaDoor
open Go.RowKit Go.Maps Go.WideMaps Go.Shelf
/-- What holds of a table while it is built. -/
structure Inv (es : List NdD) : Prop where
  wf : WF es
  dep : ∀ i, (h : i < es.length) → 1 ≤ (es[i]).depth ∧ (es[i]).depth ≤ 64
theorem inv_nil : Inv [] := ⟨⟨fun _ h => absurd h (Nat.not_lt_zero _), fun _ h => absurd h (Nat.not_lt_zero _), fun _ h => absurd h (Nat.not_lt_zero _), fun _ h => absurd h (Nat.not_lt_zero _)⟩, fun _ h => absurd h (Nat.not_lt_zero _)⟩
theorem Inv.dbd {es : List NdD} (h : Inv es) (i : Int) : 0 ≤ depS es i ∧ depS es i ≤ 64 := by
  cases ht : thereS es i with
  | false => rw [dep_no ht]; omega
  | true =>
    obtain ⟨k, rfl, hk⟩ := there_yes ht
    rw [dep_at hk]
    have := h.dep k hk
    omega
theorem elem_there {es : List NdD} {i : Int} (h : elemS es i = true) : thereS es i = true := by
  cases ht : thereS es i with
  | true => rfl
  | false => rw [elem_no ht] at h; cases h
theorem lastEl_bd {es : List NdD} (h : Inv es) {l : List Nat} (hl : ∀ k ∈ l, k < es.length) : lastElS es l < es.length ∧ -1 ≤ lastElS es l := by
  rcases List.eq_nil_or_concat l with rfl | ⟨l0, k, rfl⟩
  · exact ⟨by show (-1 : Int) < _; omega, by show (-1 : Int) ≤ -1; omega⟩
  · rw [List.concat_eq_append] at hl ⊢
    have hk : k < es.length := hl k (by simp)
    rw [lastEl_snoc hk]
    have := h.wf.ahead k hk
    split <;> omega
theorem fits_cases {es : List NdD} {r : RawD} (h : fitsS es r = true) : (es = [] ∧ r.par = -1) ∨ (∃ k : Nat, r.par = k ∧ k < es.length ∧ depS es r.par < 64) := by
  unfold fitsS at h
  split at h
  · rename_i h0
    rw [Bool.and_eq_true] at h
    exact .inl ⟨List.eq_nil_of_length_eq_zero h0, by simpa using h.1⟩
  · rw [Bool.and_eq_true] at h
    obtain ⟨k, hk, hkl⟩ := there_yes (elem_there h.1)
    exact .inr ⟨k, hk, hkl, of_decide_eq_true h.2⟩
theorem Inv.add {es : List NdD} (h : Inv es) {r : RawD} (hf : fitsS es r = true) : Inv (addS es r) := by
  obtain ⟨p, tg, tx, ats⟩ := r
  rcases fits_cases hf with ⟨rfl, hp⟩ | ⟨k, hp, hk, hd⟩
  · simp only at hp
    subst hp
    have e : addS [] ⟨-1, tg, tx, ats⟩ = [newN [] ⟨-1, tg, tx, ats⟩] := rfl
    have en : newN [] ⟨-1, tg, tx, ats⟩ = ⟨plainS ⟨-1, tg, tx, ats⟩, 1, [], -1⟩ := rfl
    rw [e, en]
    have hz : ∀ i, i < ([⟨plainS ⟨-1, tg, tx, ats⟩, 1, [], -1⟩] : List NdD).length → i = 0 := fun i hi => by simpa using hi
    refine ⟨⟨fun i hi => ?_, fun i hi => ?_, fun i hi => ?_, fun i hi => ?_⟩, fun i hi => ?_⟩
    all_goals
      obtain rfl := hz i hi
      simp [plainS]
  · simp only at hp
    subst hp
    rw [add_yes hk]
    have hpk := h.wf.par k hk
    have hah := new_yes (tg := tg) (tx := tx) (ats := ats) hk
    have hdp := dep_at hk
    have hdk := h.dep k hk
    simp only at hd
    have hlb := lastEl_bd h (fun z hz => (h.wf.kids k hk z hz).2)
    have hN : newN es ⟨k, tg, tx, ats⟩ = ⟨plainS ⟨k, tg, tx, ats⟩, depS es k + 1, [], lastElS es (es[k]).kids⟩ := by
      rw [← hah]; rfl
    rw [hN]
    have hlen : ∀ (z : NdD), (es.modify k (fun p => { p with kids := p.kids ++ [es.length] }) ++ [z]).length = es.length + 1 := fun z => by rw [List.length_append, List.length_modify, List.length_singleton]
    have hat : ∀ (z : NdD) i (hi : i < (es.modify k (fun p => { p with kids := p.kids ++ [es.length] }) ++ [z]).length), (∃ h2 : i < es.length, (es.modify k (fun p => { p with kids := p.kids ++ [es.length] }) ++ [z])[i] = if k = i then { es[i] with kids := (es[i]).kids ++ [es.length] } else es[i]) ∨ (i = es.length ∧ (es.modify k (fun p => { p with kids := p.kids ++ [es.length] }) ++ [z])[i] = z) := fun z i hi => by
      by_cases h2 : i < es.length
      · refine .inl ⟨h2, ?_⟩
        rw [List.getElem_append_left (by rw [List.length_modify]; exact h2), List.getElem_modify]
      · have hi' : i = es.length := by rw [hlen] at hi; omega
        refine .inr ⟨hi', ?_⟩
        rw [List.getElem_append_right (by rw [List.length_modify]; omega)]
        simp
    refine ⟨⟨fun i hi => ?_, fun i hi => ?_, fun i hi => ?_, fun i hi => ?_⟩, fun i hi => ?_⟩
    · rcases hat _ i hi with ⟨h2, e⟩ | ⟨e1, e⟩
      · rw [e]; have := h.wf.par i h2; split <;> exact this
      · rw [e]; subst e1; exact ⟨by show (k : Int) < _; omega, by show -1 ≤ (k : Int); omega, fun _ => by show 0 ≤ (k : Int); omega⟩
    · rcases hat _ i hi with ⟨h2, e⟩ | ⟨e1, e⟩
      · rw [e]; have := h.wf.ahead i h2; split <;> exact this
      · rw [e]; subst e1; exact hlb
    · rw [hlen]
      rcases hat _ i hi with ⟨h2, e⟩ | ⟨e1, e⟩
      · rw [e]
        intro z hz
        split at hz
        · rename_i ek
          rw [List.mem_append, List.mem_singleton] at hz
          rcases hz with hz | rfl
          · have := h.wf.kids i h2 z hz; omega
          · omega
        · have := h.wf.kids i h2 z hz; omega
      · rw [e]; intro z hz; cases hz
    · rw [hlen]
      rcases hat _ i hi with ⟨h2, e⟩ | ⟨e1, e⟩
      · rw [e]
        have := h.wf.few i h2
        split
        · show ((es[i]).kids ++ [es.length]).length ≤ _
          rw [List.length_append, List.length_singleton]; omega
        · omega
      · rw [e]; exact Nat.zero_le _
    · rcases hat _ i hi with ⟨h2, e⟩ | ⟨e1, e⟩
      · rw [e]; have := h.dep i h2; split <;> exact this
      · rw [e]; show 1 ≤ depS es k + 1 ∧ depS es k + 1 ≤ 64; omega
theorem add_len (es : List NdD) (r : RawD) : (addS es r).length = es.length + 1 := by
  unfold addS
  rw [List.length_append, List.length_singleton]
  split
  · rw [List.length_modify]
  · rfl
end Go.Proofs.YtlkfibjbfnaagaaDoor
