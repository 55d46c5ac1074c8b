
import Derived.Test.YtlkfibjbfnaagaaDoorDmP
namespace Go.Proofs.YtlkfibjbfnaagaaDoor
open Go.RowKit
/-! Whether a table may be, told by its depths. -/
structure Shp (es : List NdD) (m : Nat) (D : Nat → Int) (E : Nat → Bool) : Prop where
  len : es.length = m
  nd : ∀ i, i < m → ∃ e, es[i]? = some e ∧ e.depth = D i ∧ emptyB e.raw.tag = !(E i)
def FitI (f : Nat → RawD) (D : Nat → Int) (E : Nat → Bool) (i : Nat) : Prop := if i = 0 then (f 0).par = -1 ∧ E 0 = true else ∃ j : Nat, (f i).par = j ∧ j < i ∧ E j = true ∧ D j < 64
theorem shp_elem {es : List NdD} {m : Nat} {D : Nat → Int} {E : Nat → Bool} (h : Shp es m D E) (p : Int) : elemS es p = true ↔ ∃ j : Nat, p = j ∧ j < m ∧ E j = true := by
  unfold elemS
  constructor
  · intro hq
    split at hq
    · rename_i hp
      obtain ⟨j, rfl⟩ : ∃ j : Nat, p = j := ⟨p.toNat, by omega⟩
      rw [Int.toNat_natCast] at hq
      by_cases hj : j < m
      · obtain ⟨e, he, _, ht⟩ := h.nd j hj
        rw [he] at hq
        exact ⟨j, rfl, hj, by simpa [ht] using hq⟩
      · rw [List.getElem?_eq_none (by rw [h.len]; omega)] at hq
        simp at hq
    · simp at hq
  · rintro ⟨j, rfl, hj, hE⟩
    obtain ⟨e, he, _, ht⟩ := h.nd j hj
    rw [if_pos (by omega), Int.toNat_natCast, he]
    simp [ht, hE]
theorem shp_dep {es : List NdD} {m : Nat} {D : Nat → Int} {E : Nat → Bool} (h : Shp es m D E) {j : Nat} (hj : j < m) : depS es j = D j := by
  obtain ⟨e, he, hd, _⟩ := h.nd j hj
  unfold depS
  rw [if_pos (by omega), Int.toNat_natCast, he]
  exact hd
theorem shp_fits {es : List NdD} {m : Nat} {f : Nat → RawD} {D : Nat → Int} {E : Nat → Bool} (h : Shp es m D E) (hE : E m = !emptyB (f m).tag) : fitsS es (f m) = true ↔ FitI f D E m := by
  unfold fitsS FitI
  rw [h.len]
  by_cases hm : m = 0
  · subst hm
    rw [if_pos rfl, if_pos rfl, hE]
    simp
  · rw [if_neg hm, if_neg hm, Bool.and_eq_true, shp_elem h, decide_eq_true_eq]
    constructor
    · rintro ⟨⟨j, hp, hj, he⟩, hd⟩
      rw [hp, shp_dep h hj] at hd
      exact ⟨j, hp, hj, he, hd⟩
    · rintro ⟨j, hp, hj, he, hd⟩
      refine ⟨⟨j, hp, hj, he⟩, ?_⟩
      rw [hp, shp_dep h hj]
      exact hd
theorem shp_add {es : List NdD} {m : Nat} {r : RawD} {D : Nat → Int} {E : Nat → Bool} (h : Shp es m D E) (hD : D m = depS es r.par + 1) (hE : E m = !emptyB (lowS r.tag)) : Shp (addS es r) (m + 1) D E := by
  obtain ⟨es2, h2, hes2⟩ : ∃ es2, addS es r = es2 ++ [newN es r] ∧ Shp es2 m D E := by
    by_cases hp : 0 ≤ r.par
    · refine ⟨_, by unfold addS; rw [if_pos hp], by rw [List.length_modify, h.len], fun i hi => ?_⟩
      obtain ⟨e, he, hd, ht⟩ := h.nd i hi
      refine ⟨_, by rw [List.getElem?_modify, he]; rfl, ?_, ?_⟩
      · show (if _ then _ else _ : NdD).depth = _
        split <;> exact hd
      · show emptyB (if _ then _ else _ : NdD).raw.tag = _
        split <;> exact ht
    · exact ⟨es, by unfold addS; rw [if_neg hp], h⟩
  rw [h2]
  refine ⟨by rw [List.length_append, hes2.len]; rfl, fun i hi => ?_⟩
  by_cases him : i < m
  · obtain ⟨e, he, hd, ht⟩ := hes2.nd i him
    exact ⟨e, by rw [List.getElem?_append_left (by rw [hes2.len]; exact him)]; exact he, hd, ht⟩
  · obtain rfl : i = m := by omega
    refine ⟨newN es r, by rw [List.getElem?_append_right (by rw [hes2.len]; exact Nat.le_refl _), hes2.len, Nat.sub_self]; rfl, ?_, ?_⟩
    · rw [hD]; rfl
    · rw [hE, Bool.not_not]; rfl
theorem low_size' (s : ByteArray) : (lowS s).size = s.size := by
  unfold lowS
  rw [strOfNums_size, List.length_map, nums_length]

theorem lowI_idem (x : Int) : lowI (lowI x) = lowI x := by
  unfold lowI
  grind

theorem low_empty (s : ByteArray) : emptyB (lowS s) = emptyB s := by
  unfold emptyB
  have h : ∀ u : ByteArray, (u.toList == []) = decide (u.data.toList.length = 0) := fun u => by
    rw [Lib.toList_data]
    cases u.data.toList <;> rfl
  have hs : ∀ u : ByteArray, u.data.toList.length = u.size := fun u => by rw [Array.length_toList]; rfl
  rw [h, h, hs, hs, low_size']
theorem build_iff (f : Nat → RawD) (D : Nat → Int) (E : Nat → Bool) (n : Nat) (hE : ∀ i, i < n → E i = !emptyB (f i).tag) (hD : ∀ i, i < n → FitI f D E i → D i = if i = 0 then 1 else D (f i).par.toNat + 1) :
    ∀ (j m : Nat) (es : List NdD), m + j = n → Shp es m D E → (∀ es2, buildS es ((List.range' m j).map f) = some es2 → Shp es2 n D E) ∧ ((buildS es ((List.range' m j).map f)).isSome = true ↔ ∀ i, m ≤ i → i < n → FitI f D E i)
  | 0, m, es, hm, h => by
    obtain rfl : m = n := by omega
    refine ⟨fun es2 he => ?_, ?_⟩
    · have : es = es2 := by simpa [buildS] using he
      exact this ▸ h
    · simp only [List.range'_zero, List.map_nil, buildS, Option.isSome_some, true_iff]
      intro i h1 h2
      omega
  | j + 1, m, es, hm, h => by
    have hfit := shp_fits h (hE m (by omega))
    rw [List.range'_succ, List.map_cons, buildS]
    by_cases hf : fitsS es (f m) = true
    · rw [if_pos hf]
      have hF := hfit.1 hf
      have hd := hD m (by omega) hF
      have hds : D m = depS es (f m).par + 1 := by
        rw [hd]
        unfold FitI at hF
        by_cases hm0 : m = 0
        · subst hm0
          rw [if_pos rfl] at hF ⊢
          rw [hF.1]
          rfl
        · rw [if_neg hm0] at hF ⊢
          obtain ⟨k, hp, hk, _⟩ := hF
          rw [hp, Int.toNat_natCast, shp_dep h hk]
      have hs := shp_add (r := f m) h hds (by rw [low_empty]; exact hE m (by omega))
      obtain ⟨h1, h2⟩ := build_iff f D E n hE hD j (m + 1) _ (by omega) hs
      refine ⟨h1, h2.trans ⟨fun hq i hi hin => ?_, fun hq i hi hin => hq i (by omega) hin⟩⟩
      by_cases him : i = m
      · subst him; exact hF
      · exact hq i (by omega) hin
    · rw [if_neg hf]
      refine ⟨fun es2 he => (by cases he), ⟨fun hq => (by cases hq), fun hq => absurd (hfit.2 (hq m (Nat.le_refl _) (by omega))) hf⟩⟩
theorem shp_nil (D : Nat → Int) (E : Nat → Bool) : Shp [] 0 D E := ⟨rfl, fun _ h => absurd h (Nat.not_lt_zero _)⟩
theorem new_iff (f : Nat → RawD) (D : Nat → Int) (E : Nat → Bool) (n : Nat) (h1 : 1 ≤ n) (h2 : n ≤ 1000) (hE : ∀ i, i < n → E i = !emptyB (f i).tag) (hD : ∀ i, i < n → FitI f D E i → D i = if i = 0 then 1 else D (f i).par.toNat + 1) :
    (∀ es2, newS ((List.range n).map f) = some es2 → Shp es2 n D E) ∧ ((newS ((List.range n).map f)).isSome = true ↔ ∀ i, i < n → FitI f D E i) := by
  have h := build_iff f D E n hE hD n 0 [] (by omega) (shp_nil D E)
  have e : newS ((List.range n).map f) = buildS [] ((List.range' 0 n).map f) := by
    unfold newS
    rw [if_pos (by rw [List.length_map, List.length_range]; exact ⟨h1, h2⟩), List.range_eq_range']
  rw [e]
  exact ⟨h.1, h.2.trans ⟨fun hq i hi => hq i (Nat.zero_le _) hi, fun hq i _ hi => hq i hi⟩⟩
/-! A chain with one node elsewhere. -/
def chF (n k : Nat) (p : Int) (text : Bool) (i : Nat) : RawD := ⟨if i = k then p else (i : Int) - 1, if text = true ∧ i + 1 = n then ⟨#[]⟩ else ⟨#[97]⟩, ⟨#[]⟩, []⟩
def chD (k : Nat) (p : Int) (i : Nat) : Int := if k = 0 ∨ i < k then (i : Int) + 1 else (i : Int) - k + p + 2
def goodC (n k : Nat) (p : Int) (text : Bool) : Bool := (if k = 0 then decide (n ≤ 64) && decide (p = -1) else decide (0 ≤ p ∧ p < k ∧ (n : Int) - k + p + 1 ≤ 64 ∧ k ≤ 64)) && (if text = true then decide (1 < n) else true)
theorem forms_new {n k : Nat} {p : Int} {text : Bool} (h1 : 1 ≤ n) (h2 : n ≤ 70) (hk : k < n) : (newS ((List.range n).map (chF n k p text))).isSome = goodC n k p text := by
  have hE : ∀ i, i < n → (fun i => !(decide (text = true ∧ i + 1 = n))) i = !emptyB (chF n k p text i).tag := fun i hi => by
    simp only [chF]
    by_cases h : text = true ∧ i + 1 = n
    · rw [if_pos h, decide_eq_true h]; decide +kernel
    · rw [if_neg h, decide_eq_false h]; decide +kernel
  have hEt : ∀ j, (!(decide (text = true ∧ j + 1 = n))) = true ↔ ¬ (text = true ∧ j + 1 = n) := fun j => by cases text <;> simp
  have hn := new_iff (chF n k p text) (chD k p) (fun i => !(decide (text = true ∧ i + 1 = n))) n h1 (by omega) hE (fun i hi hf => by
    unfold FitI at hf
    by_cases h0 : i = 0
    · subst h0
      rw [if_pos rfl] at hf ⊢
      have := hf.1
      simp only [chF] at this
      unfold chD
      by_cases hk0 : k = 0
      · rw [if_pos (.inl hk0)]; rfl
      · rw [if_pos (.inr (by omega))]; rfl
    · rw [if_neg h0] at hf ⊢
      obtain ⟨j, hp, hj, _⟩ := hf
      rw [hp, Int.toNat_natCast]
      simp only [chF] at hp
      by_cases hik : i = k
      · rw [if_pos hik] at hp
        subst hik
        unfold chD
        rw [if_neg (by omega), if_pos (.inr hj)]
        omega
      · rw [if_neg hik] at hp
        unfold chD
        by_cases hk0 : k = 0 ∨ i < k
        · rw [if_pos hk0, if_pos (by omega)]; omega
        · rw [if_neg hk0, if_neg (by omega)]; omega)
  have hb : ∀ a b : Bool, (a = true ↔ b = true) → a = b := fun a b => by cases a <;> cases b <;> simp
  refine hb _ _ (hn.2.trans ?_)
  have hG : goodC n k p text = true ↔ ((k = 0 → n ≤ 64 ∧ p = -1) ∧ (k ≠ 0 → 0 ≤ p ∧ p < k ∧ (n : Int) - k + p + 1 ≤ 64 ∧ k ≤ 64) ∧ (text = true → 1 < n)) := by
    unfold goodC
    by_cases hk0 : k = 0 <;> cases text <;> simp [hk0]
  rw [hG]
  have hpar : ∀ i, (chF n k p text i).par = if i = k then p else (i : Int) - 1 := fun i => rfl
  constructor
  · intro hq
    refine ⟨fun hk0 => ?_, fun hk0 => ?_, fun ht => ?_⟩
    · have h0 := hq 0 (by omega)
      unfold FitI at h0
      rw [if_pos rfl, hpar, if_pos hk0.symm] at h0
      refine ⟨?_, h0.1⟩
      by_cases hn1 : n = 1
      · omega
      · have hl := hq (n - 1) (by omega)
        unfold FitI at hl
        rw [if_neg (by omega), hpar, if_neg (by omega)] at hl
        obtain ⟨j, hj, _, _, hd⟩ := hl
        unfold chD at hd
        rw [if_pos (.inl hk0)] at hd
        omega
    · have hK := hq k hk
      unfold FitI at hK
      rw [if_neg hk0, hpar, if_pos rfl] at hK
      obtain ⟨j, hj, hjk, _, hd⟩ := hK
      unfold chD at hd
      rw [if_pos (.inr hjk)] at hd
      refine ⟨by omega, by omega, ?_, ?_⟩
      · by_cases hnk : n = k + 1
        · omega
        · have hl := hq (n - 1) (by omega)
          unfold FitI at hl
          rw [if_neg (by omega), hpar, if_neg (by omega)] at hl
          obtain ⟨j2, hj2, _, _, hd2⟩ := hl
          unfold chD at hd2
          rw [if_neg (by omega)] at hd2
          omega
      · by_cases hk1 : k = 1
        · omega
        · have hl := hq (k - 1) (by omega)
          unfold FitI at hl
          rw [if_neg (by omega), hpar, if_neg (by omega)] at hl
          obtain ⟨j2, hj2, hlt, _, hd2⟩ := hl
          unfold chD at hd2
          rw [if_pos (.inr (by omega))] at hd2
          omega
    · have h0 := hq 0 (by omega)
      unfold FitI at h0
      rw [if_pos rfl] at h0
      have := (hEt 0).1 h0.2
      by_cases hn1 : n = 1
      · exact absurd ⟨ht, by omega⟩ this
      · omega
  · rintro ⟨hz, hz2, ht⟩ i hi
    unfold FitI
    have hT : ∀ j, j + 1 < n → (!(decide (text = true ∧ j + 1 = n))) = true := fun j hj => (hEt j).2 (fun h => by omega)
    by_cases h0 : i = 0
    · subst h0
      rw [if_pos rfl, hpar]
      refine ⟨?_, ?_⟩
      · by_cases hk0 : k = 0
        · rw [if_pos hk0.symm]; exact (hz hk0).2
        · rw [if_neg (by omega)]; rfl
      · refine (hEt 0).2 (fun h => ?_)
        have := ht h.1
        omega
    · rw [if_neg h0, hpar]
      by_cases hik : i = k
      · subst hik
        rw [if_pos rfl]
        obtain ⟨q1, q2, q3, q4⟩ := hz2 h0
        refine ⟨p.toNat, by omega, by omega, hT _ (by omega), ?_⟩
        unfold chD
        rw [if_pos (.inr (by omega))]
        omega
      · rw [if_neg hik]
        refine ⟨i - 1, by omega, by omega, hT _ (by omega), ?_⟩
        unfold chD
        by_cases hk0 : k = 0
        · have := (hz hk0).1
          rw [if_pos (.inl hk0)]
          omega
        · obtain ⟨q1, q2, q3, q4⟩ := hz2 hk0
          by_cases hik2 : i < k
          · rw [if_pos (.inr (by omega))]; omega
          · rw [if_neg (by omega)]; omega
end Go.Proofs.YtlkfibjbfnaagaaDoor
