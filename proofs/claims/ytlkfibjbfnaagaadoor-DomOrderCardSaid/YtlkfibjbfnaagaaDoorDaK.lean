
import Derived.Test.YtlkfibjbfnaagaaDoorDmZ
namespace Go.Proofs.YtlkfibjbfnaagaaDoor
open Go.RowKit
/-! What New keeps besides: whose kids there are, how deep they are, who stands ahead. -/
def lastI (l : List Nat) : Int := match l.getLast? with
  | none => -1
  | some k => k
theorem lastI_nil : lastI [] = -1 := rfl
theorem lastI_snoc (l : List Nat) (k : Nat) : lastI (l ++ [k]) = k := by
  unfold lastI
  rw [List.getLast?_concat]
structure Kx (es : List NdD) : Prop where
  el : ∀ i, (h : i < es.length) → (es[i]).kids ≠ [] → emptyB (es[i]).raw.tag = false
  dp : ∀ i, (h : i < es.length) → ∀ k ∈ (es[i]).kids, ∃ hk : k < es.length, (es[k]).depth = (es[i]).depth + 1
  ah : ∀ i, (h : i < es.length) → ∀ j, (hj : j < (es[i]).kids.length) → ∃ hk : (es[i]).kids[j] < es.length, (es[(es[i]).kids[j]]).ahead = lastI (elemsOf es ((es[i]).kids.take j))
  zero : ∀ (h : 0 < es.length), (es[0]).depth = 1 ∧ (es[0]).ahead = -1 ∧ (es[0]).raw.par = -1 ∧ emptyB (es[0]).raw.tag = false
theorem kx_nil : Kx [] := ⟨fun _ h => absurd h (Nat.not_lt_zero _), fun _ h => absurd h (Nat.not_lt_zero _), fun _ h => absurd h (Nat.not_lt_zero _), fun h => absurd h (Nat.not_lt_zero _)⟩
theorem elems_congr {es fs : List NdD} : ∀ (l : List Nat), (∀ k ∈ l, elemS es k = elemS fs k) → elemsOf es l = elemsOf fs l
  | [], _ => rfl
  | k :: l, h => by
    unfold elemsOf
    rw [List.filter_cons, List.filter_cons, h k (by simp)]
    have ih := elems_congr l (fun x hx => h x (by simp [hx]))
    unfold elemsOf at ih
    rw [ih]
theorem lastEl_eq {es : List NdD} (hx : Kx es) {i : Nat} (hi : i < es.length) : lastElS es (es[i]).kids = lastI (elemsOf es (es[i]).kids) := by
  have hah := hx.ah i hi
  obtain ⟨ks, hks⟩ : ∃ ks, (es[i]).kids = ks := ⟨_, rfl⟩
  simp only [hks] at hah
  rw [hks]
  rcases List.eq_nil_or_concat ks with rfl | ⟨ks0, k, rfl⟩
  · rfl
  · simp only [List.concat_eq_append] at hah ⊢
    obtain ⟨hk, ha⟩ := hah ks0.length (by simp)
    have hg : (ks0 ++ [k])[ks0.length]'(by simp) = k := by simp
    simp only [hg] at hk ha
    rw [List.take_left'  rfl] at ha
    unfold lastElS
    rw [List.getLast?_concat]
    simp only [List.getElem?_eq_getElem hk]
    have he := elem_at hk
    rw [elems_snoc]
    by_cases ht : emptyB (es[k]).raw.tag = true
    · rw [if_pos ht, he, ht]
      simp only [Bool.not_true, Bool.false_eq_true, if_false, List.append_nil]
      exact ha
    · rw [if_neg ht]
      have ht' : emptyB (es[k]).raw.tag = false := by simpa using ht
      rw [he, ht']
      simp only [Bool.not_false, if_true]
      rw [lastI_snoc]
theorem Kx.add {es : List NdD} (h : Kx es) (hv : Inv es) {r : RawD} (hf : fitsS es r = true) : Kx (addS es r) := by
  have hf0 := hf
  obtain ⟨p, tg, tx, ats⟩ := r
  rcases fits_cases hf with ⟨rfl, hp⟩ | ⟨k, hp, hk, _⟩
  · simp only at hp
    subst hp
    have htg : emptyB tg = false := by
      simpa [fitsS] using hf0
    have e : addS [] ⟨-1, tg, tx, ats⟩ = [⟨plainS ⟨-1, tg, tx, ats⟩, 1, [], -1⟩] := rfl
    rw [e]
    have hz : ∀ i, i < ([⟨plainS ⟨-1, tg, tx, ats⟩, 1, [], -1⟩] : List NdD).length → i = 0 := fun i hi => by simpa using hi
    refine ⟨fun i hi hn => ?_, fun i hi k hk => ?_, fun i hi j hj => ?_, fun _ => ⟨rfl, rfl, rfl, ?_⟩⟩
    · obtain rfl := hz i hi
      exact absurd rfl hn
    · obtain rfl := hz i hi
      simp at hk
    · obtain rfl := hz i hi
      simp at hj
    · show emptyB (lowS tg) = false
      rw [low_empty]; exact htg
  · simp only at hp
    subst hp
    have hl := add_len es ⟨k, tg, tx, ats⟩
    have hel : emptyB (es[k]).raw.tag = false := by
      unfold fitsS at hf0
      rw [if_neg (by omega), Bool.and_eq_true, elem_at hk] at hf0
      simpa using hf0.1
    have hat : ∀ i, (hi : i < es.length) → ∃ h2 : i < (addS es ⟨k, tg, tx, ats⟩).length, ((addS es ⟨k, tg, tx, ats⟩)[i]).raw = (es[i]).raw ∧ ((addS es ⟨k, tg, tx, ats⟩)[i]).depth = (es[i]).depth ∧ ((addS es ⟨k, tg, tx, ats⟩)[i]).ahead = (es[i]).ahead ∧ ((addS es ⟨k, tg, tx, ats⟩)[i]).kids = if k = i then (es[i]).kids ++ [es.length] else (es[i]).kids := fun i hi => by
      refine ⟨by omega, ?_⟩
      rcases add_at hk (i := i) (tg := tg) (tx := tx) (ats := ats) (by omega) with ⟨_, e⟩ | ⟨e1, _⟩
      · rw [e]; split <;> exact ⟨rfl, rfl, rfl, rfl⟩
      · omega
    have hnw : ∃ h2 : es.length < (addS es ⟨k, tg, tx, ats⟩).length, (addS es ⟨k, tg, tx, ats⟩)[es.length] = newN es ⟨k, tg, tx, ats⟩ := by
      refine ⟨by omega, ?_⟩
      rcases add_at hk (i := es.length) (tg := tg) (tx := tx) (ats := ats) (by omega) with ⟨h2, _⟩ | ⟨_, e⟩
      · omega
      · exact e
    have hnk : (newN es ⟨k, tg, tx, ats⟩).kids = [] := rfl
    have hnd : (newN es ⟨k, tg, tx, ats⟩).depth = (es[k]).depth + 1 := by
      show depS es k + 1 = _
      rw [dep_at hk]
    have hna : (newN es ⟨k, tg, tx, ats⟩).ahead = lastI (elemsOf es (es[k]).kids) := by
      unfold newN
      simp only
      rw [if_pos (by omega), Int.toNat_natCast, List.getElem?_eq_getElem hk]
      exact lastEl_eq h hk
    obtain ⟨A, hA⟩ : ∃ A, addS es ⟨k, tg, tx, ats⟩ = A := ⟨_, rfl⟩
    obtain ⟨nn, hnn⟩ : ∃ nn, newN es ⟨k, tg, tx, ats⟩ = nn := ⟨_, rfl⟩
    simp only [hA, hnn] at hl hat hnw hnk hnd hna ⊢
    have hcase : ∀ i, i < A.length → i < es.length ∨ i = es.length := fun i hi => by omega
    have hes : ∀ x : Nat, x < es.length → elemS A x = elemS es x := fun x hx => by
      obtain ⟨h2, h3, _⟩ := hat x hx
      rw [elem_at h2, elem_at hx, h3]
    have hkidlt : ∀ i, (hi : i < es.length) → ∀ x ∈ (es[i]).kids, x < es.length := fun i hi x hx => (hv.wf.kids i hi x hx).2
    have helt : ∀ i, (hi : i < es.length) → ∀ j, elemsOf A ((es[i]).kids.take j) = elemsOf es ((es[i]).kids.take j) := fun i hi j =>
      elems_congr _ (fun x hx => hes x (hkidlt i hi x (List.mem_of_mem_take hx)))
    refine ⟨fun i hi hn => ?_, fun i hi x hx => ?_, fun i hi j hj => ?_, fun h0 => ?_⟩
    · rcases hcase i hi with h1 | rfl
      · obtain ⟨_, q1, _, _, q4⟩ := hat i h1
        rw [q1]
        by_cases hki : k = i
        · subst hki; exact hel
        · rw [q4, if_neg hki] at hn
          exact h.el i h1 hn
      · rw [hnw.2, hnk] at hn
        exact absurd rfl hn
    · rcases hcase i hi with h1 | rfl
      · obtain ⟨_, _, q2, _, q4⟩ := hat i h1
        rw [q4] at hx
        rw [q2]
        by_cases hki : k = i
        · subst hki
          rw [if_pos rfl, List.mem_append, List.mem_singleton] at hx
          rcases hx with hx | rfl
          · obtain ⟨s1, s2⟩ := h.dp k h1 x hx
            obtain ⟨t1, _, t2, _⟩ := hat x s1
            exact ⟨t1, t2.trans s2⟩
          · exact ⟨hnw.1, by rw [hnw.2]; exact hnd⟩
        · rw [if_neg hki] at hx
          obtain ⟨s1, s2⟩ := h.dp i h1 x hx
          obtain ⟨t1, _, t2, _⟩ := hat x s1
          exact ⟨t1, t2.trans s2⟩
      · rw [hnw.2, hnk] at hx
        cases hx
    · rcases hcase i hi with h1 | rfl
      · obtain ⟨_, _, _, _, q4⟩ := hat i h1
        by_cases hki : k = i
        · subst hki
          rw [if_pos rfl] at q4
          simp only [q4, List.length_append, List.length_singleton] at hj
          by_cases hj2 : j < (es[k]).kids.length
          · obtain ⟨s1, s2⟩ := h.ah k h1 j hj2
            have e1 : (A[k]).kids[j]'(by rw [q4, List.length_append]; omega) = (es[k]).kids[j] := by
              simp only [q4]
              exact List.getElem_append_left hj2
            have e2 : (A[k]).kids.take j = (es[k]).kids.take j := by
              rw [q4, List.take_append_of_le_length (by omega)]
            obtain ⟨t1, _, _, t3, _⟩ := hat _ s1
            simp only [e1]
            exact ⟨t1, by rw [t3, s2, e2, helt k h1 j]⟩
          · have hj3 : j = (es[k]).kids.length := by omega
            subst hj3
            have e1 : (A[k]).kids[(es[k]).kids.length]'(by rw [q4, List.length_append, List.length_singleton]; omega) = es.length := by
              simp only [q4]
              rw [List.getElem_append_right (Nat.le_refl _)]
              simp
            have e2 : (A[k]).kids.take (es[k]).kids.length = (es[k]).kids := by
              rw [q4, List.take_append_of_le_length (Nat.le_refl _), List.take_length]
            simp only [e1]
            refine ⟨hnw.1, ?_⟩
            rw [hnw.2, hna, e2]
            have := helt k h1 (es[k]).kids.length
            rw [List.take_length] at this
            rw [this]
        · rw [if_neg hki] at q4
          have hj2 : j < (es[i]).kids.length := by simpa only [q4] using hj
          obtain ⟨s1, s2⟩ := h.ah i h1 j hj2
          have e1 : (A[i]).kids[j]'hj = (es[i]).kids[j] := by simp only [q4]
          obtain ⟨t1, _, _, t3, _⟩ := hat _ s1
          simp only [e1]
          exact ⟨t1, by rw [t3, s2, q4, helt i h1 j]⟩
      · have : (A[es.length]).kids = [] := by rw [hnw.2, hnk]
        simp only [this, List.length_nil] at hj
        exact absurd hj (Nat.not_lt_zero _)
    · obtain ⟨_, q1, q2, q3, _⟩ := hat 0 (by omega)
      obtain ⟨s1, s2, s3, s4⟩ := h.zero (by omega)
      exact ⟨q2.trans s1, q3.trans s2, by rw [q1]; exact s3, by rw [q1]; exact s4⟩
/-- Each node's raw words are those of the table. -/
theorem build_raw : ∀ (l : List RawD) (es : List NdD), Inv es → Kx es → ∀ fs, buildS es l = some fs → Kx fs ∧ ∃ hl : fs.length = es.length + l.length, (∀ i, (h : i < es.length) → (fs[i]'(by omega)).raw = (es[i]).raw) ∧ ∀ j, (h : j < l.length) → (fs[es.length + j]'(by omega)).raw = plainS l[j]
  | [], es, _, hx, fs, h => by
    have h : some es = some fs := h
    injection h with h
    subst h
    exact ⟨hx, rfl, fun _ _ => rfl, fun j hj => absurd hj (Nat.not_lt_zero _)⟩
  | r :: l, es, hv, hx, fs, h => by
    rw [buildS] at h
    split at h
    · rename_i hf
      obtain ⟨a, hl, b, c⟩ := build_raw l (addS es r) (hv.add hf) (hx.add hv hf) fs h
      have hal := add_len es r
      refine ⟨a, by rw [hl, hal, List.length_cons]; omega, fun i hi => ?_, fun j hj => ?_⟩
      · rw [b i (by omega)]
        obtain ⟨p, tg, tx, ats⟩ := r
        rcases fits_cases hf with ⟨rfl, _⟩ | ⟨k, hp, hk, _⟩
        · exact absurd hi (Nat.not_lt_zero _)
        · simp only at hp
          subst hp
          rcases add_at hk (i := i) (tg := tg) (tx := tx) (ats := ats) (by omega) with ⟨_, e⟩ | ⟨e1, _⟩
          · rw [e]; split <;> rfl
          · omega
      · cases j with
        | zero =>
          refine Eq.trans (b es.length (by omega)) ?_
          rw [List.getElem_cons_zero]
          obtain ⟨p, tg, tx, ats⟩ := r
          rcases fits_cases hf with ⟨rfl, hp⟩ | ⟨k, hp, hk, _⟩
          · simp only at hp
            subst hp
            rfl
          · simp only at hp
            subst hp
            rcases add_at hk (i := es.length) (tg := tg) (tx := tx) (ats := ats) (by omega) with ⟨h2, _⟩ | ⟨_, e⟩
            · omega
            · rw [e]; rfl
        | succ j =>
          have hj2 : j < l.length := by simpa using hj
          have := c j hj2
          rw [List.getElem_cons_succ, ← this]
          have e : es.length + (j + 1) = (addS es r).length + j := by omega
          simp only [e]
    · cases h
theorem new_raw {l : List RawD} {es : List NdD} (h : newS l = some es) : Kx es ∧ ∃ hl : es.length = l.length, ∀ j, (h : j < l.length) → (es[j]'(by omega)).raw = plainS l[j] := by
  unfold newS at h
  split at h
  · obtain ⟨a, hl, _, c⟩ := build_raw l [] inv_nil kx_nil es h
    refine ⟨a, by rw [hl, List.length_nil, Nat.zero_add], fun j hj => ?_⟩
    have := c j hj
    simp only [List.length_nil, Nat.zero_add] at this
    exact this
  · cases h
end Go.Proofs.YtlkfibjbfnaagaaDoor
