
import Derived.Test.YtlkfibjbfnaagaaDoorDmL
namespace Go.Proofs.YtlkfibjbfnaagaaDoor
open Go.RowKit
/-- Each node but the first is a kid of just its parent; kids rise. -/
structure Tr (es : List NdD) : Prop where
  up : ∀ i, (h : i < es.length) → ∀ k ∈ (es[i]).kids, ∃ hk : k < es.length, (es[k]).raw.par = i
  rise : ∀ i, (h : i < es.length) → (es[i]).kids.Pairwise (· < ·)
  down : ∀ k, (h : k < es.length) → 0 < k → ∃ i : Nat, ∃ hi : i < es.length, (es[k]).raw.par = i ∧ k ∈ (es[i]).kids
theorem tr_nil : Tr [] := ⟨fun _ h => absurd h (Nat.not_lt_zero _), fun _ h => absurd h (Nat.not_lt_zero _), fun _ h => absurd h (Nat.not_lt_zero _)⟩
theorem add_at {es : List NdD} {k : Nat} {tg tx : ByteArray} {ats : List (ByteArray × ByteArray)} (hk : k < es.length) {i : Nat} (hi : i < (addS es ⟨k, tg, tx, ats⟩).length) :
    (∃ h2 : i < es.length, (addS es ⟨k, tg, tx, ats⟩)[i] = if k = i then { es[i] with kids := (es[i]).kids ++ [es.length] } else es[i]) ∨ (i = es.length ∧ (addS es ⟨k, tg, tx, ats⟩)[i] = newN es ⟨k, tg, tx, ats⟩) := by
  have e := add_yes (tg := tg) (tx := tx) (ats := ats) hk
  have hl := add_len es ⟨k, tg, tx, ats⟩
  by_cases h2 : i < es.length
  · refine .inl ⟨h2, ?_⟩
    simp only [e]
    rw [List.getElem_append_left (by rw [List.length_modify]; exact h2), List.getElem_modify]
  · have hi' : i = es.length := by omega
    refine .inr ⟨hi', ?_⟩
    simp only [e]
    rw [List.getElem_append_right (by rw [List.length_modify]; omega)]
    simp
theorem Tr.add {es : List NdD} (h : Tr es) (hv : Inv es) {r : RawD} (hf : fitsS es r = true) : Tr (addS es r) := by
  obtain ⟨p, tg, tx, ats⟩ := r
  rcases fits_cases hf with ⟨rfl, hp⟩ | ⟨k, hp, hk, _⟩
  · simp only at hp
    subst hp
    have e : addS [] ⟨-1, tg, tx, ats⟩ = [⟨plainS ⟨-1, tg, tx, ats⟩, 1, [], -1⟩] := rfl
    rw [e]
    have hz : ∀ i, i < ([⟨plainS ⟨-1, tg, tx, ats⟩, 1, [], -1⟩] : List NdD).length → i = 0 := fun i hi => by simpa using hi
    refine ⟨fun i hi k hk => ?_, fun i hi => ?_, fun k hk h0 => ?_⟩
    · obtain rfl := hz i hi
      simp at hk
    · obtain rfl := hz i hi
      exact List.Pairwise.nil
    · have := hz k hk; omega
  · simp only at hp
    subst hp
    have hl := add_len es ⟨k, tg, tx, ats⟩
    have hnp : (newN es ⟨k, tg, tx, ats⟩).raw.par = k := rfl
    have hnk : (newN es ⟨k, tg, tx, ats⟩).kids = [] := rfl
    have hpar : ∀ j, (hj : j < es.length) → ∃ hj2 : j < (addS es ⟨k, tg, tx, ats⟩).length, ((addS es ⟨k, tg, tx, ats⟩)[j]).raw.par = (es[j]).raw.par := fun j hj => by
      refine ⟨by omega, ?_⟩
      rcases add_at hk (i := j) (tg := tg) (tx := tx) (ats := ats) (by omega) with ⟨_, e⟩ | ⟨e1, _⟩
      · rw [e]; split <;> rfl
      · omega
    have hlast : ∃ hj2 : es.length < (addS es ⟨k, tg, tx, ats⟩).length, ((addS es ⟨k, tg, tx, ats⟩)[es.length]).raw.par = k := by
      refine ⟨by omega, ?_⟩
      rcases add_at hk (i := es.length) (tg := tg) (tx := tx) (ats := ats) (by omega) with ⟨h2, _⟩ | ⟨_, e⟩
      · omega
      · rw [e]; exact hnp
    refine ⟨fun i hi z hz => ?_, fun i hi => ?_, fun z hz h0 => ?_⟩
    · rcases add_at hk hi with ⟨h2, e⟩ | ⟨e1, e⟩
      · rw [e] at hz
        split at hz
        · rename_i ek
          subst ek
          rw [List.mem_append, List.mem_singleton] at hz
          rcases hz with hz | rfl
          · obtain ⟨hzl, hzp⟩ := h.up k h2 z hz
            obtain ⟨q1, q2⟩ := hpar z hzl
            exact ⟨q1, q2.trans hzp⟩
          · exact hlast
        · obtain ⟨hzl, hzp⟩ := h.up i h2 z hz
          obtain ⟨q1, q2⟩ := hpar z hzl
          exact ⟨q1, q2.trans hzp⟩
      · rw [e, hnk] at hz
        cases hz
    · rcases add_at hk hi with ⟨h2, e⟩ | ⟨e1, e⟩
      · rw [e]
        split
        · show ((es[i]).kids ++ [es.length]).Pairwise (· < ·)
          rw [List.pairwise_append]
          refine ⟨h.rise i h2, List.pairwise_singleton _ _, fun a ha b hb => ?_⟩
          rw [List.mem_singleton] at hb
          subst hb
          exact (hv.wf.kids i h2 a ha).2
        · exact h.rise i h2
      · rw [e, hnk]; exact List.Pairwise.nil
    · have hkid : ∀ j, (hj : j < es.length) → ∀ y ∈ (es[j]).kids, ∃ hj2 : j < (addS es ⟨k, tg, tx, ats⟩).length, y ∈ ((addS es ⟨k, tg, tx, ats⟩)[j]).kids := fun j hj y hy => by
        refine ⟨by omega, ?_⟩
        rcases add_at hk (i := j) (tg := tg) (tx := tx) (ats := ats) (by omega) with ⟨_, e⟩ | ⟨e1, _⟩
        · rw [e]
          split
          · exact List.mem_append_left _ hy
          · exact hy
        · omega
      rcases add_at hk hz with ⟨h2, _⟩ | ⟨e1, e⟩
      · obtain ⟨i, hi, hpi, hki⟩ := h.down z h2 h0
        obtain ⟨q1, q2⟩ := hpar z h2
        obtain ⟨s1, s2⟩ := hkid i hi z hki
        exact ⟨i, s1, q2.trans hpi, s2⟩
      · subst e1
        refine ⟨k, by omega, hlast.2, ?_⟩
        rcases add_at hk (i := k) (tg := tg) (tx := tx) (ats := ats) (by omega) with ⟨_, e3⟩ | ⟨e3, _⟩
        · rw [e3, if_pos rfl]
          exact List.mem_append_right _ (by simp)
        · omega
/-- A table that New takes keeps all of this. -/
theorem build_ok : ∀ (l : List RawD) (es : List NdD), Inv es → Tr es → ∀ fs, buildS es l = some fs → Inv fs ∧ Tr fs ∧ fs.length = es.length + l.length := by
  intro l
  induction l with
  | nil => intro es h1 h2 fs h; injection h with h; subst h; exact ⟨h1, h2, rfl⟩
  | cons r l ih =>
    intro es h1 h2 fs h
    rw [buildS] at h
    split at h
    · rename_i hf
      obtain ⟨a, b, c⟩ := ih _ (h1.add hf) (h2.add h1 hf) fs h
      exact ⟨a, b, by rw [c, add_len, List.length_cons]; omega⟩
    · cases h
theorem new_ok {l : List RawD} {es : List NdD} (h : newS l = some es) : Inv es ∧ Tr es ∧ es.length = l.length := by
  unfold newS at h
  split at h
  · have := build_ok l [] inv_nil tr_nil es h
    simpa using this
  · cases h
end Go.Proofs.YtlkfibjbfnaagaaDoor
