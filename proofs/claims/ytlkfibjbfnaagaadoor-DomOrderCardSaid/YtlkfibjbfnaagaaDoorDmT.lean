
import Derived.Test.YtlkfibjbfnaagaaDoorDmM
import Derived.Lib.DecodeN
namespace Go.Proofs.YtlkfibjbfnaagaaDoor
open Go.RowKit
/-! The words of a text between White. -/
def whB (b : UInt8) : Bool := b == 32 || b == 9 || b == 10
def wordsF : List UInt8 → List UInt8 → List (List UInt8)
  | cur, [] => if cur = [] then [] else [cur]
  | cur, b :: r => if whB b = true then (if cur = [] then wordsF [] r else cur :: wordsF [] r) else wordsF (cur ++ [b]) r
def wordsS (s : ByteArray) : List (List UInt8) := wordsF [] s.data.toList
theorem words_skip (r : List UInt8) : ∀ (l cur : List UInt8), (∀ b ∈ l, whB b = false) → wordsF cur (l ++ r) = wordsF (cur ++ l) r
  | [], cur, _ => by rw [List.nil_append, List.append_nil]
  | b :: l, cur, h => by
    rw [List.cons_append, wordsF, if_neg (by rw [h b (by simp)]; decide), words_skip r l _ (fun c hc => h c (by simp [hc])), List.append_assoc, List.singleton_append]
/-- What a sign that is no ASCII is: never White, nor is what follows in it. -/
theorem wide_sign (n b0 b1 b2 b3 : Nat) (hn : 1 ≤ n) (h0 : 128 ≤ b0) (h0' : b0 < 256) (h1 : b1 < 256) (h2 : b2 < 256) (h3 : b3 < 256) :
    128 ≤ (Lib.decodeN n b0 b1 b2 b3).1 ∧ (Lib.decodeN n b0 b1 b2 b3).1 ≤ 1114111 ∧ 1 ≤ (Lib.decodeN n b0 b1 b2 b3).2 ∧ (Lib.decodeN n b0 b1 b2 b3).2 ≤ n ∧ (Lib.decodeN n b0 b1 b2 b3).2 ≤ 4 ∧
      (2 ≤ (Lib.decodeN n b0 b1 b2 b3).2 → 128 ≤ b1) ∧ (3 ≤ (Lib.decodeN n b0 b1 b2 b3).2 → 128 ≤ b2) ∧ (4 ≤ (Lib.decodeN n b0 b1 b2 b3).2 → 128 ≤ b3) := by
  unfold Lib.decodeN
  repeat' split
  all_goals (simp only; omega)
/-- From place i on, where a word has begun at st (-1: nowhere), and ys are over. -/
structure FF (s : List UInt8) (ys : List ByteArray) (st : Int) (i : Nat) : Prop where
  le : i ≤ s.length
  few : ys.length ≤ i
  cur : ∃ c, ((st = -1 ∧ c = []) ∨ ∃ a : Nat, st = a ∧ a < i ∧ c = (s.take i).drop a) ∧ ys.map (·.data.toList) ++ wordsF c (s.drop i) = wordsF [] s
theorem ff_zero (s : List UInt8) : FF s [] (-1) 0 := ⟨Nat.zero_le _, Nat.le_refl _, [], .inl ⟨rfl, rfl⟩, rfl⟩
theorem ff_white {s : List UInt8} {ys : List ByteArray} {i : Nat} (h : FF s ys (-1) i) (hi : i < s.length) (hw : whB (s[i]) = true) : FF s ys (-1) (i + 1) := by
  obtain ⟨h1, h2, c, hc, hq⟩ := h
  refine ⟨hi, by omega, [], .inl ⟨rfl, rfl⟩, ?_⟩
  have hc0 : c = [] := by
    rcases hc with ⟨_, h⟩ | ⟨a, h, _⟩
    · exact h
    · omega
  subst hc0
  rw [List.drop_eq_getElem_cons hi, wordsF, if_pos hw, if_pos rfl] at hq
  exact hq
theorem ff_word {s : List UInt8} {ys : List ByteArray} {i a : Nat} (h : FF s ys a i) : a < i ∧ ∃ c, c = (s.take i).drop a ∧ c ≠ [] ∧ ys.map (·.data.toList) ++ wordsF c (s.drop i) = wordsF [] s := by
  obtain ⟨h1, h2, c, hc, hq⟩ := h
  rcases hc with ⟨h, _⟩ | ⟨a', h, hlt, hcc⟩
  · omega
  · have : a' = a := by omega
    subst this
    refine ⟨hlt, c, hcc, fun e => ?_, hq⟩
    have hl : c.length = 0 := by rw [e]; rfl
    rw [hcc, List.length_drop, List.length_take] at hl
    omega
theorem ff_st {s : List UInt8} {ys : List ByteArray} {st : Int} {i : Nat} (h : FF s ys st i) : st = -1 ∨ ∃ a : Nat, st = a ∧ a < i := by
  obtain ⟨_, _, c, hc, _⟩ := h
  rcases hc with ⟨h, _⟩ | ⟨a, h, hlt, _⟩
  · exact .inl h
  · exact .inr ⟨a, h, hlt⟩
theorem ff_yield {s : List UInt8} {ys : List ByteArray} {i a : Nat} {x : ByteArray} (h : FF s ys a i) (hi : i < s.length) (hw : whB (s[i]) = true) (hx : x.data.toList = (s.take i).drop a) : FF s (ys ++ [x]) (-1) (i + 1) := by
  obtain ⟨hlt, c, hcc, hne, hq⟩ := ff_word h
  refine ⟨hi, by rw [List.length_append, List.length_singleton]; have := h.few; omega, [], .inl ⟨rfl, rfl⟩, ?_⟩
  rw [List.drop_eq_getElem_cons hi, wordsF, if_pos hw, if_neg hne] at hq
  rw [List.map_append, List.map_singleton, hx, ← hcc, List.append_assoc, List.singleton_append]
  exact hq
theorem ff_begin {s : List UInt8} {ys : List ByteArray} {i k : Nat} (h : FF s ys (-1) i) (hk : 1 ≤ k) (hi : i + k ≤ s.length) (hw : ∀ b ∈ (s.drop i).take k, whB b = false) : FF s ys i (i + k) := by
  obtain ⟨h1, h2, c, hc, hq⟩ := h
  have hc0 : c = [] := by
    rcases hc with ⟨_, h⟩ | ⟨a, h, _⟩
    · exact h
    · omega
  subst hc0
  refine ⟨hi, by omega, (s.drop i).take k, .inr ⟨i, rfl, by omega, by rw [List.take_drop]⟩, ?_⟩
  rw [← List.take_append_drop k (s.drop i), words_skip _ _ _ hw, List.drop_drop] at hq
  exact hq
theorem ff_on {s : List UInt8} {ys : List ByteArray} {i k a : Nat} (h : FF s ys a i) (hi : i + k ≤ s.length) (hw : ∀ b ∈ (s.drop i).take k, whB b = false) : FF s ys a (i + k) := by
  obtain ⟨hlt, c, hcc, hne, hq⟩ := ff_word h
  refine ⟨hi, by have := h.few; omega, c ++ (s.drop i).take k, .inr ⟨a, rfl, by omega, ?_⟩, ?_⟩
  · rw [hcc, List.take_add, List.drop_append_of_le_length (by rw [List.length_take]; omega)]
  · rw [← List.take_append_drop k (s.drop i), words_skip _ _ _ hw, List.drop_drop] at hq
    exact hq
theorem ff_end {s : List UInt8} {ys : List ByteArray} (h : FF s ys (-1) s.length) : ys.map (·.data.toList) = wordsF [] s := by
  obtain ⟨h1, h2, c, hc, hq⟩ := h
  have hc0 : c = [] := by
    rcases hc with ⟨_, h⟩ | ⟨a, h, _⟩
    · exact h
    · omega
  subst hc0
  rw [List.drop_length, wordsF, if_pos rfl, List.append_nil] at hq
  exact hq
theorem ff_last {s : List UInt8} {ys : List ByteArray} {a : Nat} {x : ByteArray} (h : FF s ys a s.length) (hx : x.data.toList = s.drop a) : (ys ++ [x]).map (·.data.toList) = wordsF [] s := by
  obtain ⟨hlt, c, hcc, hne, hq⟩ := ff_word h
  rw [List.drop_length, wordsF, if_neg hne] at hq
  rw [List.map_append, List.map_singleton, hx, ← hq, hcc, List.take_length]
theorem ff_pre {s : List UInt8} {ys : List ByteArray} {st : Int} {i : Nat} (h : FF s ys st i) : ∃ r, ys.map (·.data.toList) ++ r = wordsF [] s := by
  obtain ⟨_, _, c, _, hq⟩ := h
  exact ⟨_, hq⟩
/-- A place whose sign is decoded. -/
theorem wide_at {s : ByteArray} {i : Nat} (hi : i < s.size) (h0 : 128 ≤ (s.get! i).toNat) : 128 ≤ (Utf8.decode s i).1 ∧ (Utf8.decode s i).1 ≤ 1114111 ∧ 1 ≤ (Utf8.decode s i).2 ∧ i + (Utf8.decode s i).2 ≤ s.size ∧ ∀ b ∈ (s.data.toList.drop i).take (Utf8.decode s i).2, whB b = false := by
  rw [Lib.decode_at]
  obtain ⟨q1, q2, q3, q4, q5, q6, q7, q8⟩ := wide_sign (s.size - i) (s.get! i).toNat (s.get! (i + 1)).toNat (s.get! (i + 2)).toNat (s.get! (i + 3)).toNat (by omega) h0 (UInt8.toNat_lt _) (UInt8.toNat_lt _) (UInt8.toNat_lt _) (UInt8.toNat_lt _)
  refine ⟨q1, q2, q3, by omega, fun b hb => ?_⟩
  obtain ⟨K, hK⟩ : ∃ K, (Lib.decodeN (s.size - i) (s.get! i).toNat (s.get! (i + 1)).toNat (s.get! (i + 2)).toNat (s.get! (i + 3)).toNat).2 = K := ⟨_, rfl⟩
  rw [hK] at hb q3 q4 q5 q6 q7 q8
  obtain ⟨j, hj, rfl⟩ := List.getElem_of_mem hb
  rw [List.length_take, List.length_drop] at hj
  have hsz : s.data.toList.length = s.size := by rw [Array.length_toList]; rfl
  have hij : i + j < s.size := by omega
  have hg : ∀ m, m < s.size → ∀ hm : m < s.data.toList.length, s.data.toList[m] = s.get! m := fun m hm _ => by
    rw [Array.getElem_toList]
    show s.data[m] = s.data[m]!
    rw [getElem!_pos s.data m hm]
  rw [List.getElem_take, List.getElem_drop, hg (i + j) hij]
  have h128 : 128 ≤ (s.get! (i + j)).toNat := by
    have : j < 4 := by omega
    rcases (by omega : j = 0 ∨ j = 1 ∨ j = 2 ∨ j = 3) with rfl | rfl | rfl | rfl
    · exact h0
    · exact q6 (by omega)
    · exact q7 (by omega)
    · exact q8 (by omega)
  have hne : ∀ c : UInt8, c.toNat < 128 → (s.get! (i + j) == c) = false := fun c hc => by
    rw [beq_eq_false_iff_ne]
    intro e
    rw [e] at h128
    omega
  unfold whB
  rw [hne 32 (by decide), hne 9 (by decide), hne 10 (by decide)]
  rfl
/-- What Go's decoder says of a text's beginning: White as a sign just if White as a byte; and what is passed over else has no White. -/
theorem sign_at {u : ByteArray} (h : 0 < u.size) : ∃ (r k : Nat) (b : UInt8), Utf8.decode u 0 = (r, k) ∧ u.data.toList[0]? = some b ∧ r ≤ 1114111 ∧ 1 ≤ k ∧ k ≤ u.size ∧ sWhite r = whB b ∧ (whB b = true → k = 1) ∧ (whB b = false → ∀ c ∈ u.data.toList.take k, whB c = false) := by
  have hsz : u.data.toList.length = u.size := by rw [Array.length_toList]; rfl
  have h0 : 0 < u.data.toList.length := by omega
  have hg : u.data.toList[0] = u.get! 0 := by
    rw [Array.getElem_toList]
    show u.data[0] = u.data[0]!
    rw [getElem!_pos u.data 0 (by rw [← Array.length_toList]; exact h0)]
  have hb0 : u.data.toList[0]? = some (u.get! 0) := by rw [List.getElem?_eq_getElem h0, hg]
  obtain ⟨b, hb⟩ : ∃ b, u.get! 0 = b := ⟨_, rfl⟩
  by_cases hlt : b.toNat < 128
  · refine ⟨b.toNat, 1, b, ?_, by rw [hb0, hb], by omega, Nat.le_refl _, by omega, ?_, fun _ => rfl, fun hw c hc => ?_⟩
    · rw [Lib.decode_at, hb]
      unfold Lib.decodeN
      rw [if_pos hlt]
    · by_cases h1 : b = 32
      · subst h1; decide
      by_cases h2 : b = 9
      · subst h2; decide
      by_cases h3 : b = 10
      · subst h3; decide
      have ne : ∀ c : UInt8, b ≠ c → ((b.toNat : Nat) : Int) ≠ ((c.toNat : Nat) : Int) := fun c hc e => hc (UInt8.toNat_inj.1 (Int.ofNat.inj e))
      have e1 : whB b = false := by
        unfold whB
        rw [beq_eq_false_iff_ne.2 h1, beq_eq_false_iff_ne.2 h2, beq_eq_false_iff_ne.2 h3]; rfl
      rw [e1]
      unfold sWhite
      exact decide_eq_false (fun h => by
        rcases h with h | h | h
        · exact ne 10 h3 h
        · exact ne 9 h2 h
        · exact ne 32 h1 h)
    · rw [List.take_one, List.head?_eq_getElem?, hb0, hb] at hc
      simp at hc
      rw [hc]; exact hw
  · obtain ⟨q1, q2, q3, q4, q5⟩ := wide_at (i := 0) h (by rw [hb]; omega)
    have hwb : whB b = false := by
      have hne : ∀ c : UInt8, c.toNat < 128 → (b == c) = false := fun c hc => by
        rw [beq_eq_false_iff_ne]
        intro e
        rw [e] at hlt
        omega
      unfold whB
      rw [hne 32 (by decide), hne 9 (by decide), hne 10 (by decide)]
      rfl
    refine ⟨(Utf8.decode u 0).1, (Utf8.decode u 0).2, b, rfl, by rw [hb0, hb], q2, q3, by omega, ?_, fun e => (by rw [hwb] at e; cases e), fun _ => q5⟩
    rw [hwb]
    unfold sWhite
    exact decide_eq_false (by omega)
end Go.Proofs.YtlkfibjbfnaagaaDoor
